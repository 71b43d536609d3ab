/- Part 7. Conditions: as each theorem says. -/
import Derived.Test.YtecfdcdkkgmkpaaIS06
import Derived.Laws.Build
import Derived.Laws.Strings2
set_option maxRecDepth 100000
namespace Go.Proofs.Ytecfdcdkkgmkpaa
open Go.RowKit
section
abbrev FL:=List (Nat×List (Option IV))
def GX:List (Option IV)->List IV->List IV
 | some _::l,_::m=>.junk::GX l m
 | none::l,x::m=>x::GX l m
 | [],m=>m
 | _,[]=>[]
theorem JM:∀ (l:List (Option IV)) (m:List IV),(GX l m).length=m.length
 | some _::l,_::m=>by simp[GX,JM l m]
 | none::l,_::m=>by simp[GX,JM l m]
 | [],m=>by cases m<;>rfl
 | some _::_,[]=>rfl
 | none::_,[]=>rfl
theorem K0:∀ (l:List (Option IV)) (m:List IV) (j:Nat) (z:IV),(GX l m)[j]?=some z->z=.junk\/((∀ y,l[j]? ≠ some (some y))/\m[j]?=some z)
 | some y::l,x::m,0,z,h=>by
  simp_all[GX]
 | some _::l,_::m,j+1,z,h=>by
  have:=K0 l m j z (by grind[GX])
  grind
 | none::l,x::m,0,z,h=>by
  simp_all[GX]
 | none::l,_::m,j+1,z,h=>by
  have:=K0 l m j z (by grind[GX])
  grind
 | [],m,j,z,h=>by
  grind[GX]
 | some _::_,[],j,z,h=>by grind[GX]
 | none::_,[],j,z,h=>by grind[GX]
def putJ:FL->BL->BL
 | [],B=>B
 | (b,l)::F,B=>match lk b B with | some x=>(b,⟨x.ty,GX l x.cs⟩)::putJ F B | none=>putJ F B
theorem HI{b:Nat}{B:BL}:∀ {F:FL} {y:Bx},lk b (putJ F B)=some y->(∃ x l,lk b B=some x/\lk b F=some l/\y=⟨x.ty,GX l x.cs⟩)\/(lk b F=none/\lk b B=some y)
 | [],y,h=>.inr ⟨rfl,h⟩
 | (c,l)::F,y,h=>by
  simp only[putJ]at h
  by_cases e:c=b
  ·subst e
   cases hc:lk c B with
   | none=>
    rw[hc]at h
    rcases HI h with⟨x,_,h1,_⟩ | ⟨_,h1⟩
    ·grind
    grind
   | some x=>
    rw[hc,BD]at h
    exact .inl ⟨x,l,rfl,BD _ _ _,(Option.some.inj h).symm⟩
  ·have h':lk b (putJ F B)=some y:=by
    cases hc:lk c B with
    | none=>grind
    | some x=>grind[AQ]
   rcases HI h' with⟨x,l',h1,h2,h3⟩ | ⟨h1,h2⟩
   ·grind[AQ]
   grind[AQ]
theorem F8{b:Nat}{B:BL}{F:FL}{x:Bx}(h:lk b B=some x):∃ y,lk b (putJ F B)=some y/\y.ty=x.ty/\y.cs.length=x.cs.length:=by
 induction F with
 | nil=>exact⟨x,h,rfl,rfl⟩
 | cons f F ih=>
  obtain⟨c,l⟩:=f
  simp only[putJ]
  by_cases e:c=b
  ·simp_all[BD,JM]
  ·cases hc:lk c B with
   | none=>exact ih
   | some z=>
    grind[AQ]
section
variable{P:Program}{cx:Cx}{T T':TL}{B:BL}{R:RL}{M:Nat->Nat}{V:Nat->Value}{F:FL}
def Fin(cx:Cx)(B:BL)(R:RL)(M:Nat->Nat)(V:Nat->Value)(b j:Nat)(y:IV)(w:World):Prop:=∃ ty cs v,Blk w (M b) ty cs/\cs[j]?=some v/\VR w (Dc cx B R M V w) M V y v/\v.oneCell'=true
structure Rm (cx:Cx) (B:BL) (R:RL) (M:Nat->Nat) (V:Nat->Value) (F:FL) (w w':World):Prop where
 os:w'.os=w.os
 tape:w'.tape=w.tape
 output:w'.output=w.output
 size:w.heap.size<=w'.heap.size
 block:∀ k,k<w.heap.size->(∀ b l x,lk b F=some l->lk b B=some x->M b≠k)->w'.heap[k]?=w.heap[k]?
 box:∀ b l x ty cs,lk b F=some l->lk b B=some x->Blk w (M b) ty cs -> ∃ cs',Blk w' (M b) ty cs'/\cs'.length=cs.length /\ ∀ (j:Nat) v,cs'[j]?=some v->cs[j]?=some v \/ ∃ y,l[j]?=some (some y)/\VR w' (Dc cx B R M V w') M V y v/\v.oneCell'=true
theorem Rm.of_below{w w':World}(hb:Below w.heap.size w w'):Rm cx B R M V F w w':=
 ⟨hb.os,hb.tape,hb.output,hb.size,fun k hk _=>hb.block k hk,fun _ _ _ _ cs _ _ h=>⟨cs,h.kept hb,rfl,fun _ _ hv=>.inl hv⟩⟩
theorem RD{B':BL}(h1:∀ b x,lk b B=some x -> ∃ y,lk b B'=some y)(h2:∀ b x,lk b B'=some x -> ∃ y,lk b B=some y){w:World}{g:Nat}:Dc cx B R M V w g↔Dc cx B' R M V w g:=by
 constructor
 ·rintro(h | ⟨a1,a2,a3,a4⟩)
  ·exact .inl h
  ·exact .inr ⟨a1,a2,fun b x hx=>by grind,a4⟩
 ·rintro(h | ⟨a1,a2,a3,a4⟩)
  ·exact .inl h
  ·exact .inr ⟨a1,a2,fun b x hx=>by grind,a4⟩
theorem QG{w:World}{g:Nat}:Dc cx B R M V w g↔Dc cx (putJ F B) R M V w g:=
 RD (fun b x hx=>by obtain⟨y,hy,_⟩:=F8 (F:=F) hx;grind) fun b x hx=>by
  rcases HI hx with⟨z,_,h,_⟩ | ⟨_,h⟩
  ·grind
  grind
theorem Rm.keeps{w w':World}(hh:HR cx (putJ F B) R M V w)(h:Rm cx B R M V F w w'):Keeps (Dc cx (putJ F B) R M V w) w w':=fun g hg=>h.block g (hh.dlt hg) fun b l x hl hx e=>by
 have hg':=QG.2 hg
 rcases hg' with hg' | ⟨_,_,a3,_⟩
 ·obtain⟨y,hy,_⟩:=F8 (F:=F) hx
  obtain⟨h1,_⟩:=hh.box b y hy
  have:=hh.d0 g hg'
  grind
 grind
theorem Rm.step{w w':World}(hh:HR cx (putJ F B) R M V w)(h:Rm cx B R M V F w w'):HR cx (putJ F B) R M V w':=by
 have hk:=h.keeps hh
 have hD:∀ g,Dc cx (putJ F B) R M V w g->Dc cx (putJ F B) R M V w' g:=fun g hg=>hg.mono h.size
 have hown:∀ b l x,lk b F=some l->lk b B=some x->(cx.w0.heap.size<=M b\/cx.bor (M b)) /\ ∃ y,lk b (putJ F B)=some y:=fun b l x hl hx=>by
  obtain⟨y,hy,_⟩:=F8 (F:=F) hx
  exact⟨(hh.box b y hy).1,y,hy⟩
 refine⟨⟨h.os.trans hh.below.os,h.tape.trans hh.below.tape,h.output.trans hh.below.output,Nat.le_trans hh.below.size h.size,fun k hk' hn=>(h.block k (Nat.lt_of_lt_of_le hk' hh.below.size) fun b l x hl hx e=>?_).trans (hh.below.block k hk' hn)⟩,hh.d0,hh.bl,hh.gl,fun b x hx=>?_,fun r x hx=>?_,hh.ro,hh.pin,hh.bb,hh.br,hh.rr⟩
 ·grind
 ·obtain⟨a1,cs,a2,a3⟩:=hh.box b x hx
  refine⟨a1,?_⟩
  rcases HI hx with⟨z,l,hz,hl,rfl⟩ | ⟨hl,hz⟩
  ·obtain⟨cs',b1,b2,b3⟩:=h.box b l z _ cs hl hz a2
   refine⟨cs',b1,by rw[b2];exact a3.1,fun j y v hy hv=>?_⟩
   rcases b3 j v hv with hc | ⟨y',hy',hv',ho'⟩
   ·have:=a3.2 j y v hy hc
    exact⟨this.1.stay hk hD,this.2⟩
   ·rcases K0 l z.cs j y hy with rfl | ⟨hne,_⟩
    ·exact⟨trivial,ho'⟩
    grind
  ·have hlt:=a2.lt
   refine⟨cs,(h.block _ hlt fun c l' z' hl' hz' e=>?_).trans a2,a3.stay hk hD⟩
   obtain⟨_,y',hy'⟩:=hown c l' z' hl' hz'
   have:c=b:=hh.bb c b y' x hy' hx e
   grind
 ·have h1:=hh.row r x hx
  split
  ·rename_i hf
   rw[if_pos hf]at h1
   exact h1.stay hk hD
  ·rename_i hf
   rw[if_neg hf]at h1
   refine Gx.stay h1 (fun g hg=>h.block g (Gx.lt h1 g hg) fun b l z hl hz e=>?_) hk hD
   obtain⟨_,y,hy⟩:=hown b l z hl hz
   exact hh.br b r y x g hy hx (by grind) hg e
theorem Fin.stay{b j:Nat}{y:IV}{l:List (Option IV)}{x:Bx}(hl:lk b F=some l)(hx:lk b B=some x)(hy:l[j]?=some (some y)){w w':World}(hh:HR cx (putJ F B) R M V w)(h:Rm cx B R M V F w w')(hf:Fin cx B R M V b j y w):Fin cx B R M V b j y w':=by
 obtain⟨ty,cs,v,h1,h2,h3,h4⟩:=hf
 obtain⟨cs',b1,b2,b3⟩:=h.box b l x ty cs hl hx h1
 have hlt:j<cs'.length:=by
  rw[b2]
  rcases Nat.lt_or_ge j cs.length with h | h
  ·exact h
  ·grind
 have hv':=List.getElem?_eq_getElem hlt
 have hk:Keeps (Dc cx B R M V w) w w':=fun g hg=>h.keeps hh g (QG.1 hg)
 refine⟨ty,cs',cs'[j],b1,hv',?_⟩
 rcases b3 j _ hv' with hc | ⟨y',hy',h5,h6⟩
 ·rw[h2]at hc
  have e:=Option.some.inj hc
  rw[<- e]
  exact⟨h3.stay hk fun g hg=>hg.mono h.size,h4⟩
 grind
inductive WalkM (P:Program) (cx:Cx) (B:BL) (R:RL) (F:FL) (ops:Array Oper):List Oper->TL->List (Nat×Nat)->TL->List (Nat×Nat)->Prop
 | nil {T:TL} {S:List (Nat×Nat)}:WalkM P cx B R F ops [] T S T S
 | op {o:Oper} {d:Nat} {l:List Oper} {T T':TL} {S S':List (Nat×Nat)} {y:IV}:o.guard=none->o.dst=some d->Nat.blt d cx.n=true->LStep P cx (putJ F B) R o T y->WalkM P cx B R F ops l ((d,y)::T) S T' S'->WalkM P cx B R F ops (o::l) T S T' S'
 | gd (g:Bool) {o:Oper} {d:Nat} {l:List Oper} {T T':TL} {S S':List (Nat×Nat)} {y:IV}:gk ops T o=some g->o.dst=some d->Nat.blt d cx.n=true->(g=true->LStep P cx (putJ F B) R o T y)->WalkM P cx B R F ops l ((d,.opt g y)::T) S T' S'->WalkM P cx B R F ops (o::l) T S T' S'
 | stw {o:Oper} {l:List Oper} {T T':TL} {S S':List (Nat×Nat)} {ty:TypeId} {x y:Operand} {b:Nat} {bx:Bx} {m:List (Option IV)} {ds:List Dat}:o.guard=none->o.dst=none->o.op=.store ty x y->Kn T x (.box b 0)->lk b B=some bx->lk b F=some m->Kn T y (.part (.many ds))->m=ds.map (fun d=>some (.part (.one d)))->ds.all Dat.isOne=true->Nat.beq ds.length bx.cs.length=true->sizeT P ty=some ds.length ->
   WalkM P cx B R F ops l T ((List.range ds.length).map (fun j=>(b,j))++S) T' S'->WalkM P cx B R F ops (o::l) T S T' S'
 | st1 {o:Oper} {l:List Oper} {T T':TL} {S S':List (Nat×Nat)} {ty:TypeId} {x y:Operand} {b j:Nat} {bx:Bx} {m:List (Option IV)} {v:IV}:o.guard=none->o.dst=none->o.op=.store ty x y->Kn T x (.box b j)->lk b B=some bx->lk b F=some m->Kn T y v->m[j]?=some (some v)->v.isOne=true->Nat.blt j bx.cs.length=true->sizeT P ty=some 1 ->
   WalkM P cx B R F ops l T ((b,j)::S) T' S'->WalkM P cx B R F ops (o::l) T S T' S'
abbrev Hj(cx:Cx)(B:BL)(R:RL)(M:Nat->Nat)(V:Nat->Value)(F:FL)(w:World):Prop:=HR cx (putJ F B) R M V w
def T6(cx:Cx)(B:BL)(R:RL)(M:Nat->Nat)(V:Nat->Value)(F:FL)(S:List (Nat×Nat))(w:World):Prop:=∀ s∈S,∀ l x y,lk s.1 F=some l->lk s.1 B=some x->l[s.2]?=some (some y)->Fin cx B R M V s.1 s.2 y w
def Rz(cx:Cx)(B:BL)(R:RL)(M:Nat->Nat)(V:Nat->Value)(F:FL)(w w':World):Prop:=Hj cx B R M V F w->Hj cx B R M V F w'/\(∀ (y:IV) (v:Value),VR w (Dc cx (putJ F B) R M V w) M V y v->VR w' (Dc cx (putJ F B) R M V w') M V y v) /\ ∀ S,T6 cx B R M V F S w->T6 cx B R M V F S w'
theorem Rz.of{w w':World}(h:Hj cx B R M V F w->Rm cx B R M V F w w'):Rz cx B R M V F w w':=fun hh=>
 ⟨(h hh).step hh,fun _ _ hv=>hv.stay ((h hh).keeps hh) fun _ hg=>hg.mono (h hh).size,fun _ hS s hs l x y hl hx hy=>Fin.stay hl hx hy hh (h hh) (hS s hs l x y hl hx hy)⟩
def FG(cx:Cx)(B:BL)(R:RL)(M:Nat->Nat)(V:Nat->Value)(F:FL)(y:IV):Kind:=
 match y.whole with
 | some v=>Kind.is v
 | none=>⟨none,fun v w=>Hj cx B R M V F w/\VR w (Dc cx (putJ F B) R M V w) M V y v⟩
def S1(cx:Cx)(B:BL)(R:RL)(M:Nat->Nat)(V:Nat->Value)(F:FL)(S:List (Nat×Nat)):Kind:=⟨none,fun _ w=>Hj cx B R M V F w/\T6 cx B R M V F S w⟩
def GtM(cx:Cx)(B:BL)(R:RL)(M:Nat->Nat)(V:Nat->Value)(F:FL)(C:World->Prop)(T:TL)(G:List C8)(a:Act):Prop:=
 ∀ t x,lk t T=some x->(∀ w,C w->VR w (Dc cx (putJ F B) R M V w) M V x (a.tmps.getD t undef))\/(x.whole=none /\ ∃ f,(some t,f)∈G /\ ∀ w,f w->VR w (Dc cx (putJ F B) R M V w) M V x (a.tmps.getD t undef))
theorem GtM.put{C:World->Prop}{G:List C8}{a:Act}(h:GtM cx B R M V F C T G a){d:Nat}(hd:d<a.tmps.size){y:IV}{v:Value}(hok:(FG cx B R M V F y).ok v):GtM cx B R M V F C ((d,y)::T) ((some d,(FG cx B R M V F y).pred v)::G) (a.put (some d) v):=fun t x hx=>by
 rw[FT a d t v hd]
 rcases AE hx with⟨rfl,rfl⟩ | ⟨hne,hx⟩
 ·rw[if_pos rfl]
  unfold FG at hok ⊢
  cases hw:x.whole with
  | some u=>
   grind[Kind.ok_is,JL]
  | none=>grind
 ·rw[if_neg hne]
  rcases h t x hx with h | ⟨h1,f,h2,h3⟩
  ·grind
  grind
def GsM(cx:Cx)(B:BL)(R:RL)(M:Nat->Nat)(V:Nat->Value)(F:FL)(S:List (Nat×Nat))(G:List C8):Prop:=∀ s∈S,∃ f∈G,∀ w,f.2 w->T6 cx B R M V F [s] w
theorem V0{C:World->Prop}{ops:Array Oper}{o:Oper}{y:IV}{G:List C8}{a:Act}(hC:∀ w,C w->Hj cx B R M V F w)(hG:GtM cx B R M V F C T G a)(h:LStep P cx (putJ F B) R o T y){w:World}(hc:C w)(hS:Seen ops o G w):
  CX P (Rz cx B R M V F) o a (FG cx B R M V F y) w:=by
 have h1:=h M V w a (hC w hc) fun t z hm hz=>by
  rcases hG t z hz with h | ⟨_,f,h2,h3⟩
  ·grind
  ·exact h3 w (hS _ h2 t rfl (EN hm))
 have key:∀ {v:Value} {w':World},Below w.heap.size w w'->VR w' (Dc cx (putJ F B) R M V w') M V y v->Rz cx B R M V F w w'/\(FG cx B R M V F y).ok v/\(FG cx B R M V F y).pred v w':=fun{v w'} hb hv=>by
  refine⟨Rz.of fun _=>Rm.of_below hb,?_⟩
  unfold FG
  cases hw:y.whole with
  | some u=>exact⟨Kind.ok_is.2 (DF hw hv),trivial⟩
  | none=>exact⟨fun c h=>(by cases h),(hC w hc).step hb,hv⟩
 unfold CX
 generalize(execOp a.eval o).run P w=r at *
 cases r with
 | halt x w'=>exact h1.elim
 | ok n w'=>
  cases n<;>simp only[Upon]at h1<;>simp only[E6]
  case value u=>grind
  case skip=>grind
  case enter f args=>
   obtain⟨rfl,h1⟩:=h1
   exact h1.mono fun e w'' ⟨v,he,h2,h3⟩=>⟨v,he,key h2 h3⟩
theorem WalkM.wpT{C:World->Prop}{ops:Array Oper}{Q:List C8->Act->Prop}(hC:∀ w,C w->Hj cx B R M V F w)(hc:∃ w,C w){l:List Oper}{S S':List (Nat×Nat)}(hW:WalkM P cx B R F ops l T S T' S'):
  ∃ kl,AllStay (Rz cx B R M V F) kl /\ ∀ {G:List C8} {a:Act},a.tmps.size=cx.n->a.defers=[]->GtM cx B R M V F C T G a->GsM cx B R M V F S G->(∀ G' a',a'.tmps.size=cx.n->a'.defers=[]->GtM cx B R M V F C T' G' a'->GsM cx B R M V F S' G'->Q G' a')->wpT P ops (Rz cx B R M V F) C Q l kl G a:=by
 have hst:∀ y v,GL (Rz cx B R M V F) ((FG cx B R M V F y).pred v):=fun y v=>by
  unfold FG
  cases y.whole with
  | some u=>exact fun _ _ _ _=>trivial
  | none=>exact fun w w' hr ⟨h1,h2⟩=>⟨(hr h1).1,(hr h1).2.1 _ _ h2⟩
 have hss:∀ S v,GL (Rz cx B R M V F) ((S1 cx B R M V F S).pred v):=fun S v w w' hr ⟨h1,h2⟩=>⟨(hr h1).1,(hr h1).2.2 S h2⟩
 have hmore:∀ {S:List (Nat×Nat)} {G:List C8} (f:C8),GsM cx B R M V F S G->GsM cx B R M V F S (f::G):=fun f h s hs=>by
  obtain⟨g,h1,h2⟩:=h s hs
  grind
 have htmore:∀ {T:TL} {G:List C8} {a:Act} (f:C8),GtM cx B R M V F C T G a->GtM cx B R M V F C T (f::G) a:=fun f h t x hx=>by
  rcases h t x hx with h | ⟨h1,g,h2,h3⟩
  ·grind
  grind
 induction hW with
 | nil=>exact⟨[],trivial,fun hn hd hG hS hQ=>hQ _ _ hn hd hG hS⟩
 | op hg hd hn hs _ ih=>
  rename_i o d l T T' S S' y _
  obtain⟨kl,h1,h2⟩:=ih
  refine⟨FG cx B R M V F y::kl,⟨hst _,h1⟩,fun{G a} hsz hdf hG hS hQ=>⟨?_,fun v hv=>?_⟩⟩
  ·unfold AskT
   rw[if_pos (by grind[Region.wanted])]
   grind[V0]
  ·rw[hd]
   exact h2 (by simpa[Act.put]using hsz) hdf (hG.put (by simp_all) hv) (hmore _ hS) hQ
 | gd g hg hd hn hs _ ih=>
  rename_i o d l T T' S S' y _
  obtain⟨kl,h1,h2⟩:=ih
  refine⟨FG cx B R M V F (.opt g y)::kl,⟨hst _,h1⟩,fun{G a} hsz hdf hG hS hQ=>⟨?_,fun v hv=>?_⟩⟩
  ·obtain⟨w0,hw0⟩:=hc
   have hw:=GD hg fun t z v _ hz hv=>by
    rcases hG t z hz with h | ⟨h1,_⟩
    ·exact DF hv (h w0 hw0)
    grind
   unfold AskT
   rw[hw]
   cases g with
   | true=>
    rw[if_pos rfl]
    refine fun w hc hSn=>V0 hC hG (fun M V w a hh ht=>?_) hc hSn
    have h1:=hs rfl M V w a hh ht
    revert h1
    generalize(execOp a.eval _).run P w=r
    intro h1
    cases r with
    | halt x w'=>exact h1
    | ok n w'=>
     cases n<;>simp only[Upon]at h1 ⊢
     case value u=>exact⟨h1.1,fun _=>h1.2,fun h=>(by cases h)⟩
     case skip=>exact⟨h1.1,fun _=>h1.2,fun h=>(by cases h)⟩
     case enter f args=>exact⟨h1.1,h1.2.mono fun e w'' ⟨v,he,h3,h4⟩=>⟨v,he,h3,fun _=>h4,fun h=>(by cases h)⟩⟩
   | false=>
    rw[if_neg (by simp)]
    unfold FG
    rw[I0]
    exact⟨Kind.ok_is.2 rfl,fun _=>trivial⟩
  ·rw[hd]
   exact h2 (by simpa[Act.put]using hsz) hdf (hG.put (by simp_all) hv) (hmore _ hS) hQ
 | stw hg hd ho hx hb hlF hy hm h1 hlen hs _ ih=>
  rename_i o l T T' S S' ty x y b bx m ds _
  obtain⟨kl,k1,k2⟩:=ih
  refine⟨S1 cx B R M V F ((List.range ds.length).map (fun j=>(b,j)))::kl,⟨hss _,k1⟩,fun{G a} hsz hdf hG hS hQ=>⟨?_,fun v hv=>?_⟩⟩
  ·unfold AskT
   rw[if_pos (by grind[Region.wanted])]
   refine fun w hcw hSn=>?_
   have hh:=hC w hcw
   have hT:∀ x' t z,x'∈o.op.operands->x'=.tmp t->lk t T=some z->VR w (Dc cx (putJ F B) R M V w) M V z (a.tmps.getD t undef):=fun x' t z hm' e hz=>by
    rcases hG t z hz with h | ⟨_,f,h2,h3⟩
    ·grind
    ·exact h3 w (hSn _ h2 t rfl (EN (e▸hm')))
   have hxv:a.eval x=_:=hx w (Dc cx (putJ F B) R M V w) M V a fun t z e hz=>hT x t z (by grind[Op.operands]) e hz
   obtain⟨xs,hyv,hyf⟩:=hy w (Dc cx (putJ F B) R M V w) M V a fun t z e hz=>hT y t z (by grind[Op.operands]) e hz
   have hone:=hyf.one h1
   obtain⟨bj,hbj,hty,hlj⟩:=F8 (F:=F) hb
   obtain⟨_,cs,a2,a3⟩:=hh.box b bj hbj
   have hlen':=Nat.eq_of_beq_eq_true hlen
   have hxl:xs.length=ds.length:=hyf.1.symm
   have hcl:cs.length=xs.length:=by
    have:=a3.1
    omega
   have hst:=run_storeCells_at (P:=P) (M b) 0 bj.ty xs 0 cs.toArray w a2 (by simp;omega) hone
   have hrow:=setRow_heap w (M b) cs.toArray xs.toArray bj.ty (0,0) a2
   have e1:(List.take (0+0) cs.toArray.toList++xs++List.drop (0+0+xs.length) cs.toArray.toList).toArray=xs.toArray:=by
    rw[Nat.zero_add,Nat.zero_add,List.take_zero,<- hcl]
    simp
   rw[e1]at hst
   have hD:∀ g,Dc cx (putJ F B) R M V w g->Dc cx (putJ F B) R M V (w.setRow (M b) xs.toArray) g:=fun g hg=>hg.mono (by simp)
   have hkp:Keeps (Dc cx (putJ F B) R M V w) w (w.setRow (M b) xs.toArray):=fun g hg=>setRow_other w (M b) g _ fun e=>by
    rcases hg with hg | ⟨_,_,hg,_⟩
    ·have:=hh.d0 g hg
     grind
    grind
   have hVR:∀ (j:Nat) v z,xs[j]?=some v->m[j]?=some (some z)->VR (w.setRow (M b) xs.toArray) (Dc cx (putJ F B) R M V (w.setRow (M b) xs.toArray)) M V z v:=fun j v z hv hz=>by
    rw[hm,List.getElem?_map,Option.map_eq_some_iff]at hz
    obtain⟨d',hd',e⟩:=hz
    obtain rfl:IV.part (.one d')=z:=by grind
    exact(show VR w (Dc cx (putJ F B) R M V w) M V (.part (.one d')) v from hyf.2 j d' v hd' hv).stay hkp hD
   have hRm:Rm cx B R M V F w (w.setRow (M b) xs.toArray):=by
    refine⟨rfl,rfl,rfl,by simp,fun k hk hne=>setRow_other w (M b) k _ fun e=>hne b m bx hlF hb e.symm,fun c l' x' ty' cs' hl' hx' hblk=>?_⟩
    by_cases e:M c=M b
    ·obtain⟨yc,hyc,_⟩:=F8 (F:=F) hx'
     have:c=b:=hh.bb c b yc bj hyc hbj e
     subst this
     have e2:cs'=cs/\ty'=bj.ty:=by
      have h1:w.heap[M c]?=some (.cells cs'.toArray ty' (0,0)):=hblk
      have h2:w.heap[M c]?=some (.cells cs.toArray bj.ty (0,0)):=a2
      rw[h1]at h2
      injection h2 with h2
      injection h2 with h3 h4
      exact⟨by grind,h4⟩
     refine⟨xs,by rw[e2.2];exact hrow,by grind,fun j v hv=>.inr ?_⟩
     rw[hlF]at hl'
     obtain rfl:=Option.some.inj hl'
     have hjl:j<ds.length:=by
      rw[<- hxl]
      rcases Nat.lt_or_ge j xs.length with h | h
      ·exact h
      ·grind
     have hz:m[j]?=some (some (.part (.one ds[j]))):=by rw[hm,List.getElem?_map,List.getElem?_eq_getElem hjl];rfl
     refine⟨_,hz,?_,hone v (List.mem_of_getElem? hv)⟩
     exact(hVR j v _ hv hz).stay (Keeps.refl _ _) fun g hg=>QG.2 hg
    ·exact⟨cs',(setRow_other w (M b) (M c) _ e).trans hblk,rfl,fun j v hv=>.inl hv⟩
   have hsz:=CB hs (w:=w)
   have hrun:(execOp a.eval o).run P w=.ok .skip (w.setRow (M b) xs.toArray):=by
    unfold execOp
    simp only[ho,hxv,hyv,Instr.storeAt,Instr.sureAddr,Sem.run_bind,Sem.run_pure,Result.andThen_ok]
    simp[storeVar,hsz,hxl,Value.cells,hst]
   unfold CX
   rw[hrun]
   refine⟨Rz.of fun _=>hRm,(fun c h=>by cases h),hRm.step hh,fun s hsm l' x' y' hl' hx' hy'=>?_⟩
   obtain⟨j,hj,rfl⟩:=List.mem_map.1 hsm
   simp only at hl' hx' hy'
   rw[hlF]at hl'
   obtain rfl:=Option.some.inj hl'
   have hjl:j<xs.length:=by rw[hxl];simpa using hj
   have hv:=List.getElem?_eq_getElem hjl
   exact⟨bj.ty,xs,xs[j],hrow,hv,(hVR j _ y' hv hy').stay (Keeps.refl _ _) fun g hg=>QG.2 hg,hone _ (List.mem_of_getElem? hv)⟩
  ·rw[hd]
   refine k2 hsz hdf (htmore _ hG) (fun s hsm=>?_) hQ
   rcases List.mem_append.1 hsm with h | h
   ·exact⟨_,List.mem_cons_self,fun w hw s' hs'=>hw.2 s' (by
     grind)⟩
   ·exact hmore _ hS s h
 | st1 hg hd ho hx hb hlF hy hm h1 hlen hs _ ih=>
  rename_i o l T T' S S' ty x y b j bx m v0 _
  obtain⟨kl,k1,k2⟩:=ih
  refine⟨S1 cx B R M V F [(b,j)]::kl,⟨hss _,k1⟩,fun{G a} hsz hdf hG hS hQ=>⟨?_,fun v hv=>?_⟩⟩
  ·unfold AskT
   rw[if_pos (by grind[Region.wanted])]
   refine fun w hcw hSn=>?_
   have hh:=hC w hcw
   have hT:∀ x' t z,x'∈o.op.operands->x'=.tmp t->lk t T=some z->VR w (Dc cx (putJ F B) R M V w) M V z (a.tmps.getD t undef):=fun x' t z hm' e hz=>by
    rcases hG t z hz with h | ⟨_,f,h2,h3⟩
    ·grind
    ·exact h3 w (hSn _ h2 t rfl (EN (e▸hm')))
   have hxv:a.eval x=_:=hx w (Dc cx (putJ F B) R M V w) M V a fun t z e hz=>hT x t z (by grind[Op.operands]) e hz
   have hyv:=hy w (Dc cx (putJ F B) R M V w) M V a fun t z e hz=>hT y t z (by grind[Op.operands]) e hz
   have hone:=hyv.one h1
   obtain⟨bj,hbj,hty,hlj⟩:=F8 (F:=F) hb
   obtain⟨_,cs,a2,a3⟩:=hh.box b bj hbj
   have hj':j<cs.length:=by
    have:=a3.1
    have:=CC hlen
    omega
   have hcell:w.cell? ⟨M b,j,none⟩=some cs[j]:=(a2.cell j).trans (List.getElem?_eq_getElem hj')
   have hst:(store ⟨M b,j,none⟩ (a.eval y)).run P w=.ok () (w.setCell ⟨M b,j,none⟩ (a.eval y)):=by
    rw[run_store P w _ _ _ hone,hcell]
    simp[a2.frozen j]
   have hadd:(⟨M b,j,none⟩:Addr).add 0=⟨M b,j,none⟩:=by unfold Addr.add;split<;>simp_all
   have hcl:(a.eval y).cells = #[a.eval y]:=by
    revert hone
    generalize a.eval y=u
    intro h
    cases u<;>first | rfl | cases h
   have hrow:Blk (w.setCell ⟨M b,j,none⟩ (a.eval y)) (M b) bj.ty (cs.set j (a.eval y)):=a2.set_ j (a.eval y)
   have hoth:∀ k,k≠M b->(w.setCell ⟨M b,j,none⟩ (a.eval y)).heap[k]?=w.heap[k]?:=fun k hk=>Below.heap_setCell w ⟨M b,j,none⟩ _ k hk
   have hsize:w.heap.size=(w.setCell ⟨M b,j,none⟩ (a.eval y)).heap.size:=by simp[World.setCell]
   have hD:∀ g,Dc cx (putJ F B) R M V w g->Dc cx (putJ F B) R M V (w.setCell ⟨M b,j,none⟩ (a.eval y)) g:=fun g hg=>hg.mono (Nat.le_of_eq hsize)
   have hkp:Keeps (Dc cx (putJ F B) R M V w) w (w.setCell ⟨M b,j,none⟩ (a.eval y)):=fun g hg=>hoth g fun e=>by
    rcases hg with hg | ⟨_,_,hg,_⟩
    ·have:=hh.d0 g hg
     grind
    grind
   have hVR:=hyv.stay hkp hD
   have hRm:Rm cx B R M V F w (w.setCell ⟨M b,j,none⟩ (a.eval y)):=by
    refine⟨rfl,rfl,rfl,Nat.le_of_eq hsize,fun k hk hne=>hoth k fun e=>hne b m bx hlF hb e.symm,fun c l' x' ty' cs' hl' hx' hblk=>?_⟩
    by_cases e:M c=M b
    ·obtain⟨yc,hyc,_⟩:=F8 (F:=F) hx'
     have:c=b:=hh.bb c b yc bj hyc hbj e
     subst this
     have e2:cs'=cs/\ty'=bj.ty:=by
      have h1:w.heap[M c]?=some (.cells cs'.toArray ty' (0,0)):=hblk
      have h2:w.heap[M c]?=some (.cells cs.toArray bj.ty (0,0)):=a2
      rw[h1]at h2
      injection h2 with h2
      injection h2 with h3 h4
      exact⟨by grind,h4⟩
     refine⟨cs.set j (a.eval y),by rw[e2.2];exact hrow,by grind,fun i v hv=>?_⟩
     rw[hlF]at hl'
     obtain rfl:=Option.some.inj hl'
     rw[List.getElem?_set]at hv
     split at hv
     ·rename_i hij
      subst hij
      obtain rfl:=Option.some.inj hv
      exact .inr ⟨v0,hm,hVR.stay (Keeps.refl _ _) (fun g hg=>QG.2 hg),hone⟩
     grind
    ·exact⟨cs',(hoth (M c) e).trans hblk,rfl,fun j v hv=>.inl hv⟩
   have hsz':=CB hs (w:=w)
   have hrun:(execOp a.eval o).run P w=.ok .skip (w.setCell ⟨M b,j,none⟩ (a.eval y)):=by
    unfold execOp
    simp only[ho,hxv,Instr.storeAt,Instr.sureAddr,Sem.run_bind,Sem.run_pure,Result.andThen_ok]
    simp[storeVar,hsz',hcl,storeCells,hadd,hst]
   unfold CX
   rw[hrun]
   refine⟨Rz.of fun _=>hRm,(fun c h=>by cases h),hRm.step hh,fun s hsm l' x' y' hl' hx' hy'=>?_⟩
   rw[List.mem_singleton]at hsm
   subst hsm
   simp only at hl' hx' hy'
   rw[hlF]at hl'
   obtain rfl:=Option.some.inj hl'
   rw[hm]at hy'
   obtain rfl:v0=y':=by grind
   exact⟨bj.ty,_,a.eval y,hrow,by grind,hVR.stay (Keeps.refl _ _) (fun g hg=>QG.2 hg),hone⟩
  ·rw[hd]
   refine k2 hsz hdf (htmore _ hG) (fun s hsm=>?_) hQ
   rcases List.mem_cons.1 hsm with h | h
   ·exact⟨_,List.mem_cons_self,fun w hw=>h▸hw.2⟩
   ·exact hmore _ hS s h
end
end
section
section
variable{P:Program}{cx:Cx}{T:TL}{B:BL}{R:RL}{o:Oper}
abbrev IV.str(l:List UInt8):IV:=.is (.string (Go.Proofs.Ytecfdcdkkgmkpaa.str l))
section
variable{t:TypeId}{a b:List UInt8}
theorem O2(a b:List UInt8):(a==b)=decide (a=b):=by
 grind
theorem CS:GS P .eql t (.string (str a)) (.string (str b)) (.bool (decide (a=b))):=fun _ _ w=>by
 simp_all[eqGuard,binOp,Op.stringOp,KN,O2]
theorem U9:GS P .neq t (.string (str a)) (.string (str b)) (.bool (!decide (a=b))):=fun _ _ w=>by
 simp_all[eqGuard,binOp,Op.stringOp,KN,O2]
end
theorem FJ{x:Operand}{t:TypeId}{l:List UInt8}(ho:o.op=.call { callee:=.builtin .len,args := #[x],argTypes := #[t] })(hx:Kn T x (.is (.string (str l))))(ht:P.underlying t=some .string):
  LStep P cx B R o T (.is (.int .i64 (l.length:Int))):=LStep.same fun M V w a _ hk=>by
 have h1:=(hk x _ (by grind[Op.operands,Call.operands]) hx).is_eq
 exact⟨_,by simp[execOp,ho,h1,resolve,invoke,builtin,run_len_string w t _ (str l) ht,goInt,SY],.cell _⟩
def Dat.iface? : Dat->Bool
 | .ifc _ _=>true
 | .cell (.iface _ _)=>true
 | _=>false
theorem Lies.iface{w:World}{D:Nat->Prop}{d:Dat}{v:Value}(h:Lies w D d v)(hd:d.iface?=true):∃ s u,v=.iface s u:=by
 cases h with
 | ifc t d v _=>grind
 | cell v=>
  cases v<;>first | exact⟨_,_,rfl⟩ | cases hd
 | none=>cases hd
 | row=>cases hd
 | fn=>cases hd
 | pref=>cases hd
 | ptr=>cases hd
 | map=>cases hd
def Cap.iv:Cap->IV
 | .box b j=>.box b j
 | .val v=>.is v
def KnC(T:TL):List Operand->List Cap->Prop
 | [],[]=>True
 | x::l,c::m=>Kn T x c.iv/\KnC T l m
 | _,_=>False
theorem Cap.iv_eq{w:World}{D:Nat->Prop}{M:Nat->Nat}{V:Nat->Value}{c:Cap}{v:Value}(h:VR w D M V c.iv v):v=DS M c:=by
 cases c with
 | box b j=>exact h
 | val u=>exact h.is_eq
theorem KnC.eq{w:World}{D:Nat->Prop}{M:Nat->Nat}{V:Nat->Value}{a:Act}:∀ {l:List Operand} {m:List Cap},KnC T l m->(∀ x z,x∈l->Kn T x z->VR w D M V z (a.eval x))->l.map a.eval=m.map (DS M)
 | [],[],_,_=>rfl
 | x::l,c::m,h,hk=>by
  rw[List.map_cons,List.map_cons,Cap.iv_eq (hk x _ List.mem_cons_self h.1),KnC.eq h.2 fun y z hy=>hk y z (List.mem_cons_of_mem _ hy)]
 | [],_::_,h,_=>h.elim
 | _::_,[],h,_=>h.elim
theorem UD{fn:Fn}{xs ys:List Operand}{fs cs:List Cap}(ho:o.op=.makeFunc fn xs.toArray ys.toArray)(hx:KnC T xs fs)(hy:KnC T ys cs):LStep P cx B R o T (.clo fn fs cs):=LStep.same fun M V w a _ hk=>by
 have h1:=hx.eq fun x z hm hkx=>hk x z (by grind[Op.operands]) hkx
 have h2:=hy.eq fun x z hm hkx=>hk x z (by grind[Op.operands]) hkx
 refine⟨_,?_,rfl⟩
 simp_all[execOp,Instr.makeFunc]
theorem HP{w:World}{D:Nat->Prop}{M:Nat->Nat}{V:Nat->Value}:∀ cs:List Cap,VRs w D M V (cs.map Cap.iv) (cs.map (DS M))
 | []=>trivial
 | .box _ _::cs=>⟨rfl,HP cs⟩
 | .val v::cs=>⟨Lies.cell v,HP cs⟩
theorem VRs.append{w:World}{D:Nat->Prop}{M:Nat->Nat}{V:Nat->Value}:∀ {xs ys:List IV} {us vs:List Value},VRs w D M V xs us->VRs w D M V ys vs->VRs w D M V (xs++ys) (us++vs)
 | [],_,[],_,_,h=>h
 | _::_,_,_::_,_,h1,h2=>⟨h1.1,VRs.append h1.2 h2⟩
 | [],_,_::_,_,h,_=>h.elim
 | _::_,_,[],_,h,_=>h.elim
theorem TS{ops:Array Oper}{Q:Exit->Act->World->Prop}{l:List Oper}{d:Nat}{f:FuncId}{x:Operand}{xs:List Operand}{ts:Array TypeId}{fs cs:List Cap}{zs ys:List IV}(ρ σ:Nat->Nat){B0:BL}{R0:RL}{Y:IV->BL->RL->Prop}(hg:o.guard=none)(hd:o.dst=some d)(hn:Nat.blt d cx.n=true)(ho:o.op=.call { callee:=.value x,args:=xs.toArray,argTypes:=ts })(hc:AZ P f=true)(hL:Lent B R ρ σ B0 R0)
  (hx:Kn T x (.clo (.func f) fs cs)) (hxs:KnX T xs zs) (hys:ys.map (·.ren ρ σ)=fs.map Cap.iv++zs++cs.map Cap.iv) (hf:EG P cx.gl f ys B0 R0 Y)
  (hY:∀ y B1 R1,Y y B1 R1->names B1=names B0/\names R1=names R0/\S8 (names B0) (names R0) B1=true/\y.bin (names B0) (names R0)=true)
  (hE:∀ y B1 R1,Y y B1 R1->E cx ((d,y.ren ρ σ)::FQ ((names R0).map σ) T) (IC ρ σ B1++DW ((names R0).map σ) B) (J1 σ R1++R) (wpList P ops Q l)):E cx T B R (wpList P ops Q (o::l)):=fun M V a w hr=>by
 refine wpList_plain hg fun K hK=>?_
 have h1:a.eval x=.func (.func f) (fs.map (DS M)).toArray (cs.map (DS M)).toArray:=hx w (Dc cx B R M V w) M V a fun t z _ hz=>hr.tmp t z hz
 have hrun:(execOp a.eval o).run P w=.ok (.enter f (fs.map (DS M)++xs.map a.eval++cs.map (DS M)).toArray) w:=by
  simp[execOp,ho,resolve,h1,Deferred.ofValue,invoke,CQ hc]
 have hv:VRs w (Dc cx B R M V w) M V (ys.map (·.ren ρ σ)) (fs.map (DS M)++xs.map a.eval++cs.map (DS M)):=by
  rw[hys]
  exact((HP fs).append (hxs.vrs fun t z hz=>hr.tmp t z hz)).append (HP cs)
 unfold Oper.wp
 rw[hrun]
 simp only[Oper.upon,hd]
 exact(GU hr hL hv hf hY (CC hn)).mono fun e w' ⟨v,y,B1,R1,V',h1,h2,h3⟩=>by
  subst h1
  exact hK _ _ (hE y B1 R1 h2 M V' _ _ h3)
def R6(b:Nat):BL->BL
 | []=>[]
 | (c,x)::l=>bif Nat.beq c b then R6 b l else(c,x)::R6 b l
theorem D6{b c:Nat}{x:Bx}:∀ {B:BL},lk c (R6 b B)=some x->c≠b/\lk c B=some x
 | [],h=>by cases h
 | (e,y)::l,h=>by
  simp only[R6]at h
  cases hb:Nat.beq e b with
  | true=>
   rw[hb]at h
   obtain⟨h1,h2⟩:=D6 (B:=l) h
   simp_all[AQ,Ne.symm]
  | false=>
   rw[hb]at h
   rcases AE h with⟨rfl,rfl⟩ | ⟨hne,h⟩
   ·exact⟨fun e=>by simp_all,BD _ _ _⟩
   ·obtain⟨h1,h2⟩:=D6 (B:=l) h
    grind[AQ]
theorem SP{K:Act->World->Prop}(t b:Nat){bx:Bx}{ds:List Dat}(hx:lk t T=some (.box b 0))(hb:lk b B=some bx)(hm:manyOf bx.cs=some ds)(h:E cx ((t,.part (.one (.ptr bx.ty ds)))::T) (R6 b B) R K):E cx T B R K:=fun M V a w hr=>by
 have hh:=hr.heap
 have hk:=Keeps.refl (Dc cx B R M V w) w
 have hD:∀ g,Dc cx B R M V w g->Dc cx (R6 b B) R M V w g:=fun g hg=>by
  rcases hg with hg | ⟨a1,a2,a3,a4⟩
  ·exact .inl hg
  ·exact .inr ⟨a1,a2,fun c x hx=>a3 c x (D6 hx).2,a4⟩
 refine h M V a w ⟨hr.size,hr.defers,⟨hh.below,hh.d0,hh.bl,hh.gl,fun c x hx=>?_,fun r x hx=>?_,hh.ro,hh.pin,fun c e x y hx hy he=>hh.bb c e x y (D6 hx).2 (D6 hy).2 he,fun c r x y g hx hy hf hg=>hh.br c r x y g (D6 hx).2 hy hf hg,hh.rr⟩,fun s z hz=>?_⟩
 ·obtain⟨a1,cs,a2,a3⟩:=hh.box c x (D6 hx).2
  exact⟨a1,cs,a2,a3.stay hk hD⟩
 ·have h1:=hh.row r x hx
  split
  ·rename_i hf
   rw[if_pos hf]at h1
   exact h1.stay hk hD
  ·rename_i hf
   rw[if_neg hf]at h1
   exact Gx.stay h1 (fun _ _=>rfl) hk hD
 ·rcases AE hz with⟨rfl,rfl⟩ | ⟨_,hz⟩
  ·obtain⟨a1,cs,a2,a3⟩:=hh.box b bx hb
   have hf:Fits w (Dc cx B R M V w) ds cs:=F5 hm a3.1 fun j y v hy hv=>(a3.2 j y v hy hv).1
   have hp:a.tmps.getD t undef=.pointer (some ⟨M b,0,none⟩):=hr.tmp t _ hx
   show Lies w _ (.ptr bx.ty ds) _
   rw[hp]
   refine .ptr (M b) bx.ty ds cs (.inr ⟨a1,a2.lt,fun c x hx e=>?_,fun r x hx hf' e=>?_⟩) a2 hf.1 fun j d v hd hv=>(hf.2 j d v hd hv).stay hk hD
   ·exact(D6 hx).1 (hh.bb c b x bx (D6 hx).2 hb e)
   ·exact hh.br b r bx x (M b) hb hx hf' e rfl
  ·exact(hr.tmp s z hz).stay hk hD
end
end
section
section
variable{P:Program}{cx:Cx}{T T':TL}{B:BL}{R:RL}{ops:Array Oper}{Q:Exit->Act->World->Prop}{o:Oper}{l:List Oper}{d:Nat}{y:IV}{x:Operand}{ys:List IV}
theorem AK(h:LStep P cx B R o T y)(hE:E cx ((d,y)::T) B R (wpList P ops Q l))(hg:o.guard=none:=by exact rfl)(hd:o.dst=some d:=by exact rfl)(hn:Nat.blt d cx.n=true:=by exact rfl):E cx T B R (wpList P ops Q (o::l)):=GA hg hd hn h hE
theorem BE(hE:E cx ((d,y)::T) B R (wpList P ops Q l))(hg:o.guard=none:=by exact rfl)(hd:o.dst=some d:=by exact rfl)(hn:Nat.blt d cx.n=true:=by exact rfl)(ho:o.op=.move x:=by exact rfl)(hk:ev T x=some y:=by exact rfl):E cx T B R (wpList P ops Q (o::l)):=GA hg hd hn (AS ho (kn hk)) hE
theorem BW(hE:E cx ((d,y)::T) B R (wpList P ops Q l))(hg:o.guard=none:=by exact rfl)(hd:o.dst=some d:=by exact rfl)(hn:Nat.blt d cx.n=true:=by exact rfl)(ho:o.op=.assign x:=by exact rfl)(hk:ev T x=some y:=by exact rfl):E cx T B R (wpList P ops Q (o::l)):=GA hg hd hn (NU ho (kn hk)) hE
theorem A4(hg:o.guard=none)(hd:o.dst=some d)(hn:Nat.blt d cx.n=true)(h:LStep P cx B R o T y)(hW:Walk P cx B R ops l ((d,y)::T) ys T'):Walk P cx B R ops (o::l) T (y::ys) T':=.op hg hd hn h hW
theorem A8(hg:o.guard=none)(hd:o.dst=some d)(hn:Nat.blt d cx.n=true)(ho:o.op=.move x)(hk:ev T x=some y)(hW:Walk P cx B R ops l ((d,y)::T) ys T'):Walk P cx B R ops (o::l) T (y::ys) T':=.op hg hd hn (AS ho (kn hk)) hW
theorem AC(hg:o.guard=none)(hd:o.dst=some d)(hn:Nat.blt d cx.n=true)(ho:o.op=.assign x)(hk:ev T x=some y)(hW:Walk P cx B R ops l ((d,y)::T) ys T'):Walk P cx B R ops (o::l) T (y::ys) T':=.op hg hd hn (NU ho (kn hk)) hW
theorem s_t{t:Nat}(h:lk t T=some y:=by exact rfl):∃ z,lk t T=some z/\Imp z y:=N3 y h
theorem s_b{b:Nat}{z:Bx}(h:lk b B=some z:=by exact rfl):∃ u,lk b B=some u/\u.ty=z.ty/\ImpL u.cs z.cs:=TQ z h
theorem NB{c:Operand}{a b:Code}(h:E cx T B R (b.wp P Q))(hc:ev T c=some (.is (.bool false)):=by exact rfl):E cx T B R ((Code.cond c a b).wp P Q):=AB hc (fun h=>(by cases h)) fun _=>h
theorem SJ{c:Operand}{a b:Code}(h:E cx T B R (a.wp P Q))(hc:ev T c=some (.is (.bool true)):=by exact rfl):E cx T B R ((Code.cond c a b).wp P Q):=AB hc (fun _=>h) fun h=>(by cases h)
end
end
end Go.Proofs.Ytecfdcdkkgmkpaa
