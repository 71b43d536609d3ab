/- Part 2. Conditions: as each theorem says. -/
import Derived.Test.YtecfdcdkkgmkpaaIS01
import Derived.Still
import Derived.RegionTactic
import Derived.Below
set_option maxRecDepth 100000
namespace Go.Proofs.Ytecfdcdkkgmkpaa
open Go.RowKit
section
open Go
def BP(g:Vl->Int->Int)(l:Int)(x:Vl):Int:=if 0<=l then g x l else l
def gkids(v:Vl):List Vl:=v.fields.map (·.2)++(v.list++v.pairs.flatMap fun p=>[p.1,p.2])
def B4:Nat->Vl->Int->Int
 | 0,_,_ => -1
 | d+1,v,left=>if 400<v.text.length\/400<v.rest.length then -1 else(gkids v).foldl (BP (B4 d)) (left-1)
theorem HM(g:Vl->Int->Int)(hg:∀ x l,0<=l -> -1<=g x l/\g x l<=l-1):∀ (xs:List Vl) (l:Int),-1<=l -> -1<=xs.foldl (BP g) l/\xs.foldl (BP g) l<=l
 | [],l,h=>⟨h,Int.le_refl _⟩
 | x::xs,l,h=>by
  have h1 : -1<=BP g l x/\BP g l x<=l:=by
   unfold BP
   split
   ·rename_i h0
    have:=hg x l h0
    omega
   ·exact⟨h,Int.le_refl _⟩
  have:=HM g hg xs _ h1.1
  rw[List.foldl_cons]
  omega
theorem GH:∀ (d:Nat) (v:Vl) (left:Int),0<=left -> -1<=B4 d v left/\B4 d v left<=left-1
 | 0,_,left,h=>by unfold B4;omega
 | d+1,v,left,h=>by
  unfold B4
  split
  ·omega
  ·exact HM _ (fun x l hl=>GH d x l hl) _ _ (by omega)
inductive Small:Nat->Vl->Prop where
 | mk (d:Nat) (v:Vl):v.text.length<=400->v.rest.length<=400->(∀ x∈gkids v,Small d x)->Small (d+1) v
theorem UF(v:Vl):vnodes v=1+lnodes (gkids v):=by
 have h:∀ a b,lnodes (a++b)=lnodes a+lnodes b:=fun a b=>by
  induction a with
  | nil=>simp[lnodes]
  | cons x a ih=>rw[List.cons_append,lnodes,lnodes,ih];omega
 have hf:∀ fs:List (Int×Vl),lnodes (fs.map (·.2))=fnodes fs:=fun fs=>by
  induction fs with
  | nil=>simp[lnodes,fnodes]
  | cons f fs ih=>obtain⟨n,x⟩:=f;rw[List.map_cons,lnodes,fnodes,ih]
 have hp:∀ ps:List (Vl×Vl),lnodes (ps.flatMap fun p=>[p.1,p.2])=pnodes ps:=fun ps=>by
  induction ps with
  | nil=>simp[lnodes,pnodes]
  | cons p ps ih=>obtain⟨k,x⟩:=p;rw[List.flatMap_cons,h,ih,lnodes,lnodes,lnodes,pnodes];dsimp only;omega
 unfold gkids
 rw[h,h,hf,hp,C1]
 omega
theorem OG(g:Vl->Int->Int)(d:Nat)(hb:∀ x l,0<=l -> -1<=g x l/\g x l<=l-1)(hg:∀ x l,0<=l->0<=g x l->(vnodes x:Int)<=l-g x l/\Small d x):∀ (xs:List Vl) (l:Int),-1<=l->0<=xs.foldl (BP g) l->(lnodes xs:Int)<=l-xs.foldl (BP g) l /\ ∀ x∈xs,Small d x
 | [],l,_,h=>by simp[lnodes]
 | x::xs,l,hl,h=>by
  rw[List.foldl_cons]at h ⊢
  have h1 : -1<=BP g l x:=by
   unfold BP
   split
   ·rename_i h0;exact(hb x l h0).1
   ·exact hl
  have hle:=(HM g hb xs _ h1).2
  obtain⟨h2,h3⟩:=OG g d hb hg xs _ h1 h
  have h0:0<=l:=by
   rcases Int.lt_or_le l 0 with hn | hn
   ·have:BP g l x=l:=if_neg (by omega)
    omega
   ·exact hn
  have e:BP g l x=g x l:=if_pos h0
  rw[e]at h2 h hle ⊢
  obtain⟨h4,h5⟩:=hg x l h0 (by omega)
  refine⟨?_,fun y hy=>?_⟩
  ·rw[lnodes]
   omega
  ·rcases List.mem_cons.1 hy with h | h
   ·rw[h];exact h5
   ·exact h3 y h
theorem LN:∀ (d:Nat) (v:Vl) (left:Int),0<=left->0<=B4 d v left->(vnodes v:Int)<=left-B4 d v left/\Small d v
 | 0,_,left,_,h=>by unfold B4 at h;omega
 | d+1,v,left,hl,h=>by
  unfold B4 at h ⊢
  split at h
  ·omega
  ·rename_i ht
   rw[if_neg ht]
   obtain⟨h1,h2⟩:=OG (B4 d) d (fun x l hl=>GH d x l hl) (fun x l hl h=>LN d x l hl h) (gkids v) (left-1) (by omega) h
   rw[UF]
   exact⟨by omega,.mk d v (by omega) (by omega) h2⟩
theorem LE{g:Int->Vl->Int}{xs:List Vl}{l:Int}{k:Nat}{x:Vl}(h:xs[k]?=some x):(xs.take (k+1)).foldl g l=g ((xs.take k).foldl g l) x:=by
 have hk:=(List.getElem?_eq_some_iff.1 h).1
 rw[List.take_add_one,h,List.foldl_append]
 rfl
def FE(ps:List (Vl×Vl)):List Vl:=ps.flatMap fun p=>[p.1,p.2]
theorem ON{g:Int->Vl->Int}{ps:List (Vl×Vl)}{l:Int}{k:Nat}{p:Vl×Vl}(h:ps[k]?=some p):(FE (ps.take (k+1))).foldl g l=g (g ((FE (ps.take k)).foldl g l) p.1) p.2:=by
 unfold FE
 rw[List.take_add_one,h,Option.toList_some,List.flatMap_append,List.foldl_append]
 rfl
def rkids(v:Vl):List Vl:=v.list++v.fields.map (·.2)++FE v.pairs
theorem Small.parts{d:Nat}{v:Vl}(h:Small (d+1) v):v.text.length<=400/\v.rest.length<=400 /\ ∀ x∈gkids v,Small d x:=by
 cases h
 exact⟨‹_›,‹_›,‹_›⟩
end
section
structure Kind where
 exact:Option Value
 pred:Value->World->Prop
def Kind.is(c:Value):Kind:=⟨some c,fun _ _=>True⟩
def Kind.of(T:Value->World->Prop):Kind:=⟨none,T⟩
def Kind.ok(k:Kind)(v:Value):Prop:=∀ c,k.exact=some c->v=c
def Kind.pick(k:Kind):Value:=k.exact.getD undef
theorem Kind.ok_pick(k:Kind):k.ok k.pick:=fun c h=>by grind[Kind.pick]
theorem Kind.ok_is{c v:Value}:(Kind.is c).ok v↔v=c:=⟨fun h=>h c rfl,fun h d hd=>by cases hd;exact h⟩
abbrev C8:=Option Tmp×(World->Prop)
section
variable{P:Program}{ops:Array Oper}{md:Region.Mode}{C:World->Prop}{R:World->World->Prop}
def Seen(ops:Array Oper)(o:Oper)(G:List C8)(w:World):Prop:=∀ f∈G,∀ d,f.1=some d->d∈o.looksAt ops->f.2 w
def E6(P:Program)(R:World->World->Prop)(k:Kind)(w:World):Result Next->Prop
 | .ok (.value u) w'=>R w w'/\k.ok u/\k.pred u w'
 | .ok .skip w'=>R w w'/\k.ok undef/\k.pred undef w'
 | .ok (.enter f args) w'=>Calls P f args w' fun e w''=>∃ v,e=.returned v/\R w w''/\k.ok v/\k.pred v w''
 | _=>False
def CX(P:Program)(R:World->World->Prop)(o:Oper)(a:Act)(k:Kind)(w:World):Prop:=E6 P R k w ((execOp a.eval o).run P w)
theorem OJ{o:Oper}{a:Act}{k:Kind}{w:World}{K:Act->World->Prop}{Q:Exit->Act->World->Prop}(h:CX P R o a k w)
  (hK:∀ v w',R w w'->k.ok v->k.pred v w'->K (a.put o.dst v) w'):o.wp P a w K Q:=by
 unfold CX at h
 unfold Oper.wp
 generalize(execOp a.eval o).run P w=r at *
 cases r with
 | ok n w'=>
  cases n<;>simp only[E6]at h<;>simp only[Oper.upon]
  case value u=>grind
  case skip=>grind
  case enter f args=>
   exact h.mono fun e w'' ⟨v,he,h1,h2,h3⟩=>by grind
 | halt x w'=>grind[E6]
def AskT(P:Program)(ops:Array Oper)(R:World->World->Prop)(C:World->Prop)(o:Oper)(k:Kind)(G:List C8)(a:Act):Prop:=
 if Region.wanted o (yielded ops a.tmps)then ∀ w,C w->Seen ops o G w->CX P R o a k w else k.ok undef /\ ∀ w,k.pred undef w
def wpT(P:Program)(ops:Array Oper)(R:World->World->Prop)(C:World->Prop)(Q:List C8->Act->Prop):List Oper->List Kind->List C8->Act->Prop
 | [],_,G,a=>Q G a
 | o::rest,k::ks,G,a=>AskT P ops R C o k G a /\ ∀ v,k.ok v->wpT P ops R C Q rest ks ((o.dst,k.pred v)::G) (a.put o.dst v)
 | _::_,[],_,_=>False
def H8(P:Program)(md:Region.Mode)(ops:Array Oper)(R:World->World->Prop)(C:World->Prop)(ks:Nat->Kind)(Q:List C8->Act->Prop):Nat->Array Bool->List C8->Act->Prop
 | 0,listed,G,a=>Region.ready md ops listed=[]/\Q G a
 | fuel+1,listed,G,a=>
  (Region.ready md ops listed=[]->Q G a) /\
  ∀ i∈Region.ready md ops listed,∀ o,ops[i]?=some o->AskT P ops R C o (ks i) G a /\
   ∀ v,(ks i).ok v->H8 P md ops R C ks Q fuel (listed.setIfInBounds i true) ((o.dst,(ks i).pred v)::G) (a.put o.dst v)
def GL(R:World->World->Prop)(F:World->Prop):Prop:=∀ w w',R w w'->F w->F w'
theorem AskT.more{o:Oper}{k:Kind}{G G':List C8}{a:Act}(hG:∀ f∈G,f∈G')(h:AskT P ops R C o k G a):AskT P ops R C o k G' a:=by
 unfold AskT at *
 split
 ·rename_i hw
  rw[if_pos hw]at h
  exact fun w hC hS=>h w hC fun f hf=>hS f (hG f hf)
 grind
theorem IM{ks:Nat->Kind}{Q:List C8->Act->Prop}(hQ:∀ G G' a,(∀ f∈G,f∈G')->Q G a->Q G' a):
  ∀ (fuel:Nat) (listed:Array Bool) (G G':List C8) (a:Act),(∀ f∈G,f∈G')->H8 P md ops R C ks Q fuel listed G a->H8 P md ops R C ks Q fuel listed G' a
 | 0,_,_,_,_,hG,h=>⟨h.1,hQ _ _ _ hG h.2⟩
 | fuel+1,_,G,G',_,hG,h=>⟨fun h0=>hQ _ _ _ hG (h.1 h0),fun i hi o ho=>by
   obtain⟨h1,h2⟩:=h.2 i hi o ho
   refine⟨h1.more hG,fun v hv=>IM hQ fuel _ _ _ _ (fun f hf=>?_) (h2 v hv)⟩
   grind⟩
theorem GT{ks:Nat->Kind}{Q:List C8->Act->Prop}{Q':Exit->Act->World->Prop}(hC:GL R C)(hks:∀ i v,GL R ((ks i).pred v))
  (hQ:∀ G a w,C w->(∀ f∈G,f.2 w)->Q G a->Q' .normal a w):∀ (fuel:Nat) (listed:Array Bool) (G:List C8) (a:Act) (w:World),C w->(∀ f∈G,f.2 w)->(∀ f∈G,GL R f.2) ->
  H8 P md ops R C ks Q fuel listed G a->wpAny P md ops Q' fuel listed a w
 | 0,_,_,_,_,hw,hG,_,h=>⟨h.1,hQ _ _ _ hw hG h.2⟩
 | fuel+1,listed,G,a,w,hw,hG,hst,h=>⟨fun h0=>hQ _ _ _ hw hG (h.1 h0),fun i hi=>by
   unfold wpOp
   split
   ·grind[mem_ready]
   ·rename_i o ho
    obtain⟨h1,h2⟩:=h.2 i hi o ho
    unfold AskT at h1
    split
    ·rename_i hwt
     rw[if_pos hwt]at h1
     refine .inl (OJ (h1 w hw fun f hf _ _ _=>hG f hf) fun v w' hR hok hp=>?_)
     refine GT hC hks hQ fuel _ _ _ w' (hC _ _ hR hw) (fun f hf=>?_) (fun f hf=>?_) (h2 v hok)
     ·rcases List.mem_cons.1 hf with rfl | hf
      ·exact hp
      ·exact hst f hf _ _ hR (hG f hf)
     grind
    ·rename_i hwt
     rw[if_neg hwt]at h1
     refine GT hC hks hQ fuel _ _ _ w hw (fun f hf=>?_) (fun f hf=>?_) (h2 undef h1.1)
     ·rcases List.mem_cons.1 hf with rfl | hf
      ·grind
      grind
     grind⟩
theorem AskT.put{oi oj:Oper}{k:Kind}{F:World->Prop}{v:Value}{G:List C8}{a:Act}(hsj:∀ cs b,oj.op≠.select cs b)
  (h1:∀ d,oi.dst=some d->d∉oj.looksAt ops):AskT P ops R C oj k ((oi.dst,F)::G) (a.put oi.dst v)↔AskT P ops R C oj k G a:=by
 have e1:execOp (a.put oi.dst v).eval oj=execOp a.eval oj:=execOp_put oj hsj a oi.dst v h1
 simp_all[wanted_put,Seen,AskT,CX]
theorem PU{i j:Nat}{o:Oper}{listed:Array Bool}(hi:i∈Region.ready md ops listed)(hj:j∈Region.ready md ops listed)(ho:ops[j]?=some o):
  ∀ e∈o.after,Region.binds md e=true->e.on≠i:=by
 rintro e he hb rfl
 obtain⟨_,o',ho',hall⟩:=mem_ready.1 hj
 rw[ho]at ho';cases ho'
 have h1:=hall e he hb
 have h0:=(mem_ready.1 hi).1
 grind
theorem M4{ks:Nat->Kind}{Q:List C8->Act->Prop}(hQ:∀ G G' a,(∀ f∈G,f∈G')->Q G a->Q G' a){i:Nat}{oi:Oper}(hi:ops[i]?=some oi)
  (hsel:∀ (j:Nat) (o:Oper) cs b,ops[j]?=some o->o.op≠.select cs b):
  ∀ (fuel:Nat) (listed:Array Bool) (G:List C8) (a:Act),
   (∀ j oj,ops[j]?=some oj->j≠i->listed.getD j true=false->(∀ e∈oj.after,Region.binds md e=true->e.on≠i)->oi.apart ops oj=true) ->
   i∈Region.ready md ops listed->AskT P ops R C oi (ks i) G a ->
   (∀ v,(ks i).ok v->H8 P md ops R C ks Q fuel (listed.setIfInBounds i true) ((oi.dst,(ks i).pred v)::G) (a.put oi.dst v))->H8 P md ops R C ks Q (fuel+1) listed G a:=by
 intro fuel
 induction fuel with
 | zero=>
  intro listed G a _ hr hy H
  refine⟨fun h=>(by grind),fun j hj o ho=>?_⟩
  by_cases hji:j=i
  ·grind
  ·have h0:=(H _ (ks i).ok_pick).1
   have:=ready_mono hj hji
   grind
 | succ fuel ih=>
  intro listed G a hfree hr hy H
  refine⟨fun h=>(by grind),fun j hj o ho=>?_⟩
  by_cases hji:j=i
  ·grind
  ·have hjun:=(mem_ready.1 hj).1
   obtain⟨a1,a2,a3⟩:=Oper.apart_spec (hfree j o ho hji hjun (PU hr hj ho))
   have hjr:=ready_mono hj hji
   refine⟨(AskT.put (hsel j o · · ho) a1).1 ((H _ (ks i).ok_pick).2 j hjr o ho).1,fun u hu=>?_⟩
   refine ih (listed.setIfInBounds j true) _ _ (fun k ok hk hki hun hno=>hfree k ok hk hki (Decidable.byCases (fun h:j=k=>by rw[<- h];exact hjun) fun h=>by simp_all) hno) (ready_mono hr (Ne.symm hji)) ((AskT.put (hsel i oi · · hi) a3).2 hy) fun v hv=>?_
   have h2:=((H v hv).2 j hjr o ho).2 u hu
   grind[Array.setIfInBounds_comm,Act.put_comm,IM]
theorem KL{ks:Nat->Kind}{Q:List C8->Act->Prop}(hQ:∀ G G' a,(∀ f∈G,f∈G')->Q G a->Q G' a)(hs:Region.noSelect ops=true):
  ∀ (l:List Oper) (kl:List Kind) (n:Nat) (listed:Array Bool) (G:List C8) (a:Act),(∀ j,l[j]?=ops[n+j]?)->(∀ (j:Nat) k,kl[j]?=some k->ks (n+j)=k) ->
  Region.lexFrom md ops l.length n listed=true->wpT P ops R C Q l kl G a->H8 P md ops R C ks Q l.length listed G a
 | [],_,_,_,_,_,_,_,hB,h=>⟨by grind[Region.lexFrom],h⟩
 | _::_,[],_,_,_,_,_,_,_,h=>h.elim
 | o::l,k::kl,n,listed,G,a,hl,hk,hB,h=>by
  have h0:ops[n]?=some o:=by simpa using(hl 0).symm
  have hk0:ks n=k:=by simpa using hk 0 k (by simp)
  simp only[List.length_cons,Region.lexFrom,Bool.and_eq_true]at hB
  obtain⟨⟨hr,hf⟩,hB'⟩:=hB
  obtain⟨h1,h2⟩:=h
  refine M4 hQ h0 (Region.noSelect_spec hs) l.length listed G a (Region.free_spec h0 hf) (by simpa using hr) (by grind) fun v hv=>?_
  rw[hk0]at hv ⊢
  exact KL hQ hs l kl (n+1) _ _ _ (fun j=>by have:=hl (j+1);grind)
   (fun j k' hj=>by have:=hk (j+1) k' (by simpa using hj);grind) hB' (h2 v hv)
def AllStay(R:World->World->Prop):List Kind->Prop
 | []=>True
 | k::ks=>(∀ v,GL R (k.pred v))/\AllStay R ks
theorem AllStay.mem:∀ {l:List Kind},AllStay R l -> ∀ k∈l,∀ v,GL R (k.pred v)
 | _::_,h,k,hk=>by
  rcases List.mem_cons.1 hk with rfl | hk
  ·exact h.1
  ·exact AllStay.mem h.2 k hk
theorem JT{id:Nat}{Q:Exit->Act->World->Prop}{a:Act}{w:World}{l:List Oper}(C:World->Prop)(R:World->World->Prop)(kl:List Kind)(hm:P.follows .mixedOrders=true)
  (hB:Region.lexB .any l.toArray=true) (hC:GL R C) (hks:AllStay R kl) (h0:C w.drew)
  (h:wpT P l.toArray R C (fun G a'=>∀ w',C w'->(∀ f∈G,f.2 w')->Q .normal a' w') l kl [] a):(Code.region id l.toArray true).wp P Q a w:=by
 simp only[Region.lexB,Bool.and_eq_true]at hB
 have hks':∀ i v,GL R (((fun i=>kl.getD i (Kind.is undef)) i).pred v):=fun i v=>by
  simp only[List.getD]
  cases hk:kl[i]? with
  | none=>exact fun _ _ _ _=>trivial
  | some k=>exact hks.mem k (List.mem_of_getElem? hk) v
 refine wp_region_any hm (GT (ks:=fun i=>kl.getD i (Kind.is undef)) (Q:=fun G a'=>∀ w',C w'->(∀ f∈G,f.2 w')->Q .normal a' w') hC hks' (fun G a' w' hw hG h=>h w' hw hG) _ _ [] a _ h0
  (fun f hf=>by cases hf) (fun f hf=>by cases hf) ?_)
 have:=KL (md:=.any) (ks:=fun i=>kl.getD i (Kind.is undef)) (fun G G' a' hG h w' hw hF=>h w' hw fun f hf=>hF f (hG f hf)) hB.1 l kl 0 (Array.replicate l.toArray.size false) [] a (by simp)
  (fun j k hj=>by simp[List.getD,hj]) (by grind) h
 grind
theorem Seen.get{o:Oper}{G:List C8}{w:World}(h:Seen ops o G w){d:Tmp}{F:World->Prop}(hm:(some d,F)∈G)(hl:(o.looksAt ops).contains d=true):F w:=
 h _ hm d rfl (by grind)
variable{Q:List C8->Act->Prop}{o:Oper}{rest:List Oper}{ks:List Kind}{G:List C8}{a:Act}
end
end
section
inductive Part where
 | one (d:Dat)
 | many (ds:List Dat)
inductive Cap where
 | box (b j:Nat)
 | val (v:Value)
def DS(M:Nat->Nat):Cap->Value
 | .box b j=>.pointer (some ⟨M b,j,none⟩)
 | .val v=>v
inductive IV where
 | junk
 | part (p:Part)
 | tup (ps:List Part)
 | ref (ds:List Dat)
 | box (b j:Nat)
 | own (r:Nat)
 | via (r:Nat) (f:Value->Value->Prop)
 | opt (g:Bool) (x:IV)
 | clo (fn:Fn) (first caps:List Cap)
 | sl (b n c:Nat)
abbrev IV.is(v:Value):IV:=.part (.one (.cell v))
structure Bx where
 ty:TypeId
 cs:List IV
structure Rw where
 ty:TypeId
 k:Nat
 n:Nat
 ds:List Dat
 fz:Bool
abbrev TL:=List (Nat×IV)
abbrev BL:=List (Nat×Bx)
abbrev RL:=List (Nat×Rw)
structure Cx where
 w0:World
 D0:Nat->Prop
 bor:Nat->Prop
 n:Nat
 gl:List (Nat×List Value)
 pn:List Nat
 mb:Nat->Nat
structure Bex (bor:Nat->Prop) (w0 w:World):Prop where
 os:w.os=w0.os
 tape:w.tape=w0.tape
 output:w.output=w0.output
 size:w0.heap.size<=w.heap.size
 block:∀ k,k<w0.heap.size->¬ bor k->w.heap[k]?=w0.heap[k]?
theorem Bex.refl(bor:Nat->Prop)(w:World):Bex bor w w:=⟨rfl,rfl,rfl,Nat.le_refl _,fun _ _ _=>rfl⟩
theorem Bex.step{bor:Nat->Prop}{w0 w w':World}(h:Bex bor w0 w)(hb:Below w.heap.size w w'):Bex bor w0 w':=
 ⟨hb.os.trans h.os,hb.tape.trans h.tape,hb.output.trans h.output,Nat.le_trans h.size hb.size,fun k hk hn=>(hb.block k (Nat.lt_of_lt_of_le hk h.size)).trans (h.block k hk hn)⟩
theorem Bex.turn{bor:Nat->Prop}{w0 w w':World}(h:Bex bor w0 w)(h1:w'.os=w.os)(h2:w'.tape=w.tape)(h3:w'.output=w.output)(h4:w.heap.size<=w'.heap.size)(r:Option Nat)(hr:∀ g,r=some g->w0.heap.size<=g\/bor g)(hk:∀ k,k<w.heap.size->some k≠r->w'.heap[k]?=w.heap[k]?):Bex bor w0 w':=
 ⟨h1.trans h.os,h2.trans h.tape,h3.trans h.output,Nat.le_trans h.size h4,fun k hlt hn=>(hk k (Nat.lt_of_lt_of_le hlt h.size) fun e=>by
  grind).trans (h.block k hlt hn)⟩
theorem Bex.below{w0 w:World}(h:Bex (fun _=>False) w0 w):Below w0.heap.size w0 w:=⟨h.os,h.tape,h.output,h.size,fun k hk=>h.block k hk fun h=>h⟩
def lk{α:Type}(i:Nat):List (Nat×α)->Option α
 | []=>none
 | (j,a)::l=>bif Nat.beq j i then some a else lk i l
theorem BD{α:Type}(i:Nat)(a:α)(l:List (Nat×α)):lk i ((i,a)::l)=some a:=by simp[lk]
theorem AQ{α:Type}{i j:Nat}(a:α)(l:List (Nat×α))(h:j≠i):lk i ((j,a)::l)=lk i l:=by
 have:Nat.beq j i=false:=by
  cases e:Nat.beq j i
  ·rfl
  ·simp_all
 grind[lk]
theorem AE{α:Type}{i j:Nat}{a x:α}{l:List (Nat×α)}(h:lk i ((j,a)::l)=some x):(j=i/\x=a)\/(j≠i/\lk i l=some x):=by
 by_cases e:j=i
 ·simp_all[BD]
 grind[AQ]
theorem F6{α:Type}{i:Nat}{x:α}:∀ {l:List (Nat×α)},lk i l=some x->(i,x)∈l
 | [],h=>by cases h
 | (j,a)::l,h=>by
  rcases AE h with⟨rfl,rfl⟩ | ⟨_,h⟩
  ·grind
  ·exact List.mem_cons_of_mem _ (F6 h)
def PFit(w:World)(D:Nat->Prop):Part->Value->Prop
 | .one d,v=>Lies w D d v
 | .many ds,v=>∃ xs:List Value,v=.agg xs.toArray/\Fits w D ds xs
def PsFit(w:World)(D:Nat->Prop):List Part->List Value->Prop
 | [],[]=>True
 | p::ps,v::vs=>PFit w D p v/\PsFit w D ps vs
 | _,_=>False
section
variable{w w':World}{D D':Nat->Prop}
theorem PFit.stay(hk:Keeps D w w')(hD:∀ g,D g->D' g):∀ {p:Part} {v:Value},PFit w D p v->PFit w' D' p v
 | .one _,_,h=>Lies.stay h hk hD
 | .many _,_,⟨xs,h1,h2⟩=>⟨xs,h1,h2.stay hk hD⟩
theorem PsFit.stay(hk:Keeps D w w')(hD:∀ g,D g->D' g):∀ {ps:List Part} {vs:List Value},PsFit w D ps vs->PsFit w' D' ps vs
 | [],[],_=>trivial
 | _::_,_::_,h=>⟨h.1.stay hk hD,PsFit.stay hk hD h.2⟩
 | [],_::_,h=>h.elim
 | _::_,[],h=>h.elim
theorem PsFit.length:∀ {ps:List Part} {vs:List Value},PsFit w D ps vs->ps.length=vs.length
 | [],[],_=>rfl
 | _::_,_::_,h=>by simp[PsFit.length h.2]
 | [],_::_,h=>h.elim
 | _::_,[],h=>h.elim
theorem PsFit.get:∀ {ps:List Part} {vs:List Value} (_:PsFit w D ps vs) {i:Nat} {p:Part} (_:ps[i]?=some p),∃ v,vs[i]?=some v/\PFit w D p v
 | p::_,v::_,h,0,q,hp=>⟨v,rfl,by
  obtain rfl:p=q:=by grind
  exact h.1⟩
 | _::ps,_::vs,h,i+1,q,hp=>by
  obtain⟨u,h1,h2⟩:=PsFit.get h.2 (i:=i) (p:=q) (by grind)
  grind
 | [],[],_,_,_,hp=>by simp at hp
 | [],_::_,h,_,_,_=>h.elim
 | _::_,[],h,_,_,_=>h.elim
end
def VR(w:World)(D:Nat->Prop)(M:Nat->Nat)(V:Nat->Value):IV->Value->Prop
 | .junk,_=>True
 | .part p,v=>PFit w D p v
 | .tup ps,v=>∃ vs:List Value,v=.tuple vs.toArray/\PsFit w D ps vs
 | .ref ds,v=>∃ b o,v=.pointer (some ⟨b,o,none⟩)/\D b /\ ∃ xs,Fits w D ds xs /\ ∀ (j:Nat) x,xs[j]?=some x->w.cell? ⟨b,o+j,none⟩=some x
 | .box b j,v=>v=.pointer (some ⟨M b,j,none⟩)
 | .own r,v=>v=V r
 | .via r f,v=>f (V r) v
 | .opt g x,v=>(g=true->VR w D M V x v)/\(g=false->v=undef)
 | .clo fn fs cs,v=>v=.func fn (fs.map (DS M)).toArray (cs.map (DS M)).toArray
 | .sl b n c,v=>v=.slice (some ⟨M b,0,none⟩) n c
theorem VR.stay{w w':World}{D D':Nat->Prop}{M:Nat->Nat}{V:Nat->Value}(hk:Keeps D w w')(hD:∀ g,D g->D' g):∀ {x:IV} {v:Value},VR w D M V x v->VR w' D' M V x v
 | .junk,_,_=>trivial
 | .part _,_,h=>PFit.stay hk hD h
 | .tup _,_,⟨vs,h1,h2⟩=>⟨vs,h1,h2.stay hk hD⟩
 | .ref _,_,⟨b,o,h1,h2,xs,h3,h4⟩=>⟨b,o,h1,hD _ h2,xs,h3.stay hk hD,fun j x hx=>(World.cell?_of_block (a:=⟨b,o+j,none⟩) (hk b h2)).trans (h4 j x hx)⟩
 | .box _ _,_,h=>h
 | .own _,_,h=>h
 | .via _ _,_,h=>h
 | .opt _ _,_,h=>⟨fun hg=>(h.1 hg).stay hk hD,h.2⟩
 | .clo _ _ _,_,h=>h
 | .sl _ _ _,_,h=>h
def obk:Value->Option Nat
 | .map (some g)=>some g
 | v=>v.ownBlock
def U5(w:World)(base:Nat)(e:TypeId)(v:Value)(n:Nat)(xs:List Value):Prop:=
 (Nat.blt e 1000000=false/\Nat.blt e 2000000=true) /\ ∃ g es clock,v=.map (some g)/\base<=g/\w.heap[g]?=some (.map es clock)/\es.size=n/\kvs es.toList=xs
def T8(w:World)(base:Nat)(e:TypeId)(k:Nat)(v:Value)(n:Nat)(xs:List Value):Prop:=Nat.blt e 2000000=false/\w.ownsRow base (e-2000000) k v n xs
theorem BZ{e:TypeId}(h:Nat.blt e 1000000=true):Nat.blt e 2000000=true:=by
 exact Nat.blt_eq.mpr (Nat.lt_of_lt_of_le (Nat.blt_eq.mp h) (by decide))
def Ow(w:World)(base:Nat)(e:TypeId)(k:Nat)(v:Value)(n:Nat)(xs:List Value):Prop:=(Nat.blt e 1000000=true/\w.ownsRow base e k v n xs)\/U5 w base e v n xs\/T8 w base e k v n xs
theorem CP{w:World}{base:Nat}{e:TypeId}{k:Nat}{v:Value}{n:Nat}{xs:List Value}(h:w.ownsRow base e k v n xs):obk v=v.ownBlock:=by
 rcases h.2 with⟨rfl,_⟩ | ⟨g,cap,cur,rfl,_⟩<;>rfl
theorem Ow.row{w:World}{base:Nat}{e:TypeId}{k:Nat}{v:Value}{n:Nat}{xs:List Value}(h:Ow w base e k v n xs)(ht:Nat.blt e 1000000=true):w.ownsRow base e k v n xs:=by
 rcases h with⟨_,h⟩ | ⟨⟨h,_⟩,_⟩ | ⟨h,_⟩
 ·exact h
 ·grind
 grind[BZ]
theorem Ow.lt{w:World}{base:Nat}{e:TypeId}{k:Nat}{v:Value}{n:Nat}{xs:List Value}(h:Ow w base e k v n xs)(g:Nat)(hg:obk v=some g):base<=g/\g<w.heap.size:=by
 rcases h with⟨_,h⟩ | ⟨_,g',es,c,rfl,hb,hh,_⟩ | ⟨_,h⟩
 ·exact World.ownsRow.lt h g ((CP h).symm.trans hg)
 ·obtain rfl:g'=g:=Option.some.inj hg
  grind
 ·exact World.ownsRow.lt h g ((CP h).symm.trans hg)
theorem Ow.stay{w w':World}{base:Nat}{e:TypeId}{k:Nat}{v:Value}{n:Nat}{xs:List Value}(h:Ow w base e k v n xs)(hv:∀ g,obk v=some g->w'.heap[g]?=w.heap[g]?):Ow w' base e k v n xs:=by
 rcases h with⟨h0,h⟩ | ⟨h0,g',es,c,rfl,hb,hh,hr⟩ | ⟨h0,h⟩
 ·exact .inl ⟨h0,ownsRow.stay h fun g hg=>hv g ((CP h).trans hg)⟩
 ·exact .inr (.inl ⟨h0,g',es,c,rfl,hb,(hv g' rfl).trans hh,hr⟩)
 ·exact .inr (.inr ⟨h0,ownsRow.stay h fun g hg=>hv g ((CP h).trans hg)⟩)
def SA:Dat->Dat
 | .orow _ k n _ ds=>.row k n ds
 | .optr t _ ds=>.ptr t ds
 | d=>d
def datOf(x:Rw):Dat:=bif Nat.blt x.ty 1000000 then .row x.k x.n x.ds else bif Nat.blt x.ty 2000000 then .map x.n x.ds else .row x.k x.n (x.ds.map SA)
theorem I5{x:Rw}(h:Nat.blt x.ty 1000000=true):datOf x=.row x.k x.n x.ds:=by grind[datOf]
theorem QJ{x:Rw}(h:Nat.blt x.ty 1000000=false)(h2:Nat.blt x.ty 2000000=true):datOf x=.map x.n x.ds:=by grind[datOf]
theorem P6{x:Rw}(h2:Nat.blt x.ty 2000000=false):datOf x=.row x.k x.n (x.ds.map SA):=by
 have h:Nat.blt x.ty 1000000=false:=by
  cases h:Nat.blt x.ty 1000000
  ·rfl
  ·grind[BZ]
 grind[datOf]
def kidBlk:Dat->Option Nat
 | .orow _ _ _ v _=>v.ownBlock
 | .optr _ (.pointer (some ⟨g,0,none⟩)) _=>some g
 | _=>none
def Kid(ds:List Dat)(g:Nat):Prop:=∃ (j:Nat) (d:Dat),ds[j]?=some d/\kidBlk d=some g
def obs(e:TypeId)(ds:List Dat)(v:Value)(g:Nat):Prop:=obk v=some g\/(Nat.blt e 2000000=false/\Kid ds g)
theorem G6{e:TypeId}{ds:List Dat}{v:Value}{g:Nat}(h:obs e ds v g)(ht:Nat.blt e 2000000=true):obk v=some g:=by
 rcases h with h | ⟨h,_⟩
 ·exact h
 grind
def KidFit(w:World)(D:Nat->Prop):Dat->Value->Prop
 | .orow ty k n v es,x=>x=v/\Nat.blt ty 1000000=true /\ ∃ ys,w.ownsRow 0 ty k v n ys/\Fits w D es ys
 | .optr ty v es,x=>x=v /\ ∃ g ys,v=.pointer (some ⟨g,0,none⟩)/\Blk w g ty ys/\Fits w D es ys
 | d,x=>Lies w D d x
theorem KidFit.lt{w:World}{D:Nat->Prop}{d:Dat}{x:Value}{g:Nat}(h:KidFit w D d x)(hg:kidBlk d=some g):g<w.heap.size:=by
 cases d with
 | orow ty k n v es=>
  obtain⟨_,_,ys,h1,_⟩:=h
  exact(World.ownsRow.lt h1 g hg).2
 | optr ty v es=>
  obtain⟨_,g',ys,rfl,h1,_⟩:=h
  obtain rfl:g'=g:=Option.some.inj hg
  exact h1.lt
 | _=>cases hg
theorem KidFit.stay{w w':World}{D D':Nat->Prop}{d:Dat}{x:Value}(h:KidFit w D d x)(hv:∀ g,kidBlk d=some g->w'.heap[g]?=w.heap[g]?)(hk:Keeps D w w')(hD:∀ g,D g->D' g):KidFit w' D' d x:=by
 cases d with
 | orow ty k n v es=>
  obtain⟨h0,ht,ys,h1,h2⟩:=h
  exact⟨h0,ht,ys,ownsRow.stay h1 hv,h2.stay hk hD⟩
 | optr ty v es=>
  obtain⟨h0,g',ys,rfl,h1,h2⟩:=h
  exact⟨h0,g',ys,rfl,(hv g' rfl).trans h1,h2.stay hk hD⟩
 | cell v=>exact Lies.stay h hk hD
 | row k n ds=>exact Lies.stay h hk hD
 | ptr t ds=>exact Lies.stay h hk hD
 | ifc t d=>exact Lies.stay h hk hD
 | map n ds=>exact Lies.stay h hk hD
 | fn f ds=>exact Lies.stay h hk hD
 | pref ds=>exact Lies.stay h hk hD
structure KApart (v:Value) (ds:List Dat):Prop where
 own:∀ (j:Nat) d g,ds[j]?=some d->kidBlk d=some g->obk v≠some g
 two:∀ (i j:Nat) d e g,ds[i]?=some d->ds[j]?=some e->kidBlk d=some g->kidBlk e=some g->i=j
def Fx(w:World)(D:Nat->Prop)(e:TypeId)(v:Value)(ds:List Dat)(xs:List Value):Prop:=
 (Nat.blt e 2000000=true/\Fits w D ds xs)\/(Nat.blt e 2000000=false/\(ds.length=xs.length /\ ∀ (j:Nat) d x,ds[j]?=some d->xs[j]?=some x->KidFit w D d x)/\KApart v ds)
theorem Fx.row{w:World}{D:Nat->Prop}{e:TypeId}{v:Value}{ds:List Dat}{xs:List Value}(h:Fx w D e v ds xs)(ht:Nat.blt e 2000000=true):Fits w D ds xs:=by
 rcases h with⟨_,h⟩ | ⟨h,_⟩
 ·exact h
 grind
theorem Fx.stay{w w':World}{D D':Nat->Prop}{e:TypeId}{v:Value}{ds:List Dat}{xs:List Value}(h:Fx w D e v ds xs)(hv:∀ g,obs e ds v g->w'.heap[g]?=w.heap[g]?)(hk:Keeps D w w')(hD:∀ g,D g->D' g):Fx w' D' e v ds xs:=by
 rcases h with⟨h0,h⟩ | ⟨h0,h1,h2⟩
 ·exact .inl ⟨h0,h.stay hk hD⟩
 ·exact .inr ⟨h0,⟨h1.1,fun j d x hd hx=>(h1.2 j d x hd hx).stay (fun g hg=>hv g (.inr ⟨h0,j,d,hd,hg⟩)) hk hD⟩,h2⟩
def Gx(w:World)(D:Nat->Prop)(base:Nat)(e:TypeId)(k:Nat)(v:Value)(n:Nat)(ds:List Dat):Prop:=∃ xs,Ow w base e k v n xs/\Fx w D e v ds xs
theorem Gx.of{w:World}{D:Nat->Prop}{base:Nat}{e:TypeId}{k:Nat}{v:Value}{n:Nat}{ds:List Dat}(h:Gr w D base e k v n ds)(ht:Nat.blt e 1000000=true):Gx w D base e k v n ds:=by
 obtain⟨xs,h1,h2⟩:=h
 exact⟨xs,.inl ⟨ht,h1⟩,.inl ⟨BZ ht,h2⟩⟩
theorem Gx.row{w:World}{D:Nat->Prop}{base:Nat}{e:TypeId}{k:Nat}{v:Value}{n:Nat}{ds:List Dat}(h:Gx w D base e k v n ds)(ht:Nat.blt e 1000000=true):Gr w D base e k v n ds:=by
 obtain⟨xs,h1,h2⟩:=h
 exact⟨xs,h1.row ht,h2.row (BZ ht)⟩
theorem Gx.lt{w:World}{D:Nat->Prop}{base:Nat}{e:TypeId}{k:Nat}{v:Value}{n:Nat}{ds:List Dat}(h:Gx w D base e k v n ds)(g:Nat)(hg:obs e ds v g):g<w.heap.size:=by
 obtain⟨xs,h1,h2⟩:=h
 rcases hg with hg | ⟨ht,j,d,hd,hg⟩
 ·exact(h1.lt g hg).2
 ·rcases h2 with⟨h2,_⟩ | ⟨_,h2,_⟩
  ·grind
  ·have hlt:j<xs.length:=by
    rw[<- h2.1]
    rcases Nat.lt_or_ge j ds.length with h | h
    ·exact h
    ·grind
   exact(h2.2 j d _ hd (List.getElem?_eq_getElem hlt)).lt hg
theorem Gx.stay{w w':World}{D D':Nat->Prop}{base:Nat}{e:TypeId}{k:Nat}{v:Value}{n:Nat}{ds:List Dat}(h:Gx w D base e k v n ds)(hv:∀ g,obs e ds v g->w'.heap[g]?=w.heap[g]?)(hk:Keeps D w w')(hD:∀ g,D g->D' g):Gx w' D' base e k v n ds:=by
 obtain⟨xs,h1,h2⟩:=h
 exact⟨xs,h1.stay fun g hg=>hv g (.inl hg),h2.stay hv hk hD⟩
theorem HD{e:TypeId}{g:Nat}:¬ obs e [] (.slice none 0 0) g:=fun h=>by
 rcases h with h | ⟨_,j,d,h,_⟩
 ·cases h
 grind
theorem Gx.nil_{w:World}{D:Nat->Prop}{base:Nat}{e:TypeId}{k:Nat}(h:Nat.blt e 1000000=true\/Nat.blt e 2000000=false):Gx w D base e k (.slice none 0 0) 0 []:=by
 rcases h with h | h
 ·grind[Gx.of,Gr.nil]
 ·obtain⟨xs,h1,h2⟩:=Gr.nil w D base (e-2000000) k
  exact⟨xs,.inr (.inr ⟨h,h1⟩),.inr ⟨h,⟨h2.1,fun j d x hd=>by simp at hd⟩,⟨fun j d g hd=>by simp at hd,fun i j d x g hd=>by simp at hd⟩⟩⟩
theorem KidFit.lies{w:World}{D D':Nat->Prop}{d:Dat}{x:Value}(h:KidFit w D d x)(hD:∀ g,D g->D' g)(hv:∀ g,kidBlk d=some g->D' g):Lies w D' (SA d) x:=by
 have hk:=Keeps.refl D w
 cases d with
 | orow ty k n v es=>
  obtain⟨rfl,_,ys,h1,h2⟩:=h
  exact Gr.lies ⟨ys,h1,h2⟩ hD hv
 | optr ty v es=>
  obtain⟨rfl,g',ys,rfl,h1,h2⟩:=h
  exact .ptr g' ty es ys (hv g' rfl) h1 h2.1 fun j d x a b=>(h2.2 j d x a b).stay hk hD
 | cell v=>exact Lies.stay h hk hD
 | row k n ds=>exact Lies.stay h hk hD
 | ptr t ds=>exact Lies.stay h hk hD
 | ifc t d=>exact Lies.stay h hk hD
 | map n ds=>exact Lies.stay h hk hD
 | fn f ds=>exact Lies.stay h hk hD
 | pref ds=>exact Lies.stay h hk hD
theorem Gx.frozen{w:World}{D D':Nat->Prop}{base:Nat}{x:Rw}{v:Value}(h:Gx w D base x.ty x.k v x.n x.ds)(hD:∀ g,D g->D' g)(hv:∀ g,obs x.ty x.ds v g->D' g):Lies w D' (datOf x) v:=by
 obtain⟨xs,h1,h2⟩:=h
 rcases h1 with⟨hty,h1⟩ | ⟨⟨hty,hty2⟩,g,es,c,e1,_,e2,e3,e4⟩ | ⟨hty,h1⟩
 ·rw[I5 hty]
  exact Gr.lies ⟨xs,h1,h2.row (BZ hty)⟩ hD fun g hg=>hv g (.inl ((CP h1).trans hg))
 ·rw[QJ hty hty2]
  have h5:=h2.row hty2
  subst e1
  exact .map g x.n es c x.ds xs (hv g (.inl rfl)) e2 e3 e4 h5.1 fun j d y a b=>(h5.2 j d y a b).stay (Keeps.refl D w) hD
 ·rw[P6 hty]
  rcases h2 with⟨h2,_⟩ | ⟨_,⟨h3,h4⟩,_⟩
  ·grind
  ·refine Gr.lies (D:=D') ⟨xs,h1,by grind,fun j d y hd hy=>?_⟩ (fun _ h=>h) fun g hg=>hv g (.inl ((CP h1).trans hg))
   rw[List.getElem?_map,Option.map_eq_some_iff]at hd
   obtain⟨d0,hd0,rfl⟩:=hd
   exact(h4 j d0 y hd0 hy).lies hD fun g hg=>hv g (.inr ⟨hty,j,d0,hd0,hg⟩)
def Dc(cx:Cx)(B:BL)(R:RL)(M:Nat->Nat)(V:Nat->Value)(w:World)(g:Nat):Prop:=
 cx.D0 g\/((cx.w0.heap.size<=g\/cx.bor g)/\g<w.heap.size/\(∀ b x,lk b B=some x->M b≠g)/\(∀ r x,lk r R=some x->x.fz=false->¬ obs x.ty x.ds (V r) g))
def CFit(w:World)(D:Nat->Prop)(M:Nat->Nat)(V:Nat->Value)(is:List IV)(cs:List Value):Prop:=
 is.length=cs.length /\ ∀ (j:Nat) x v,is[j]?=some x->cs[j]?=some v->VR w D M V x v/\v.oneCell'=true
theorem CFit.stay{w w':World}{D D':Nat->Prop}{M:Nat->Nat}{V:Nat->Value}{is:List IV}{cs:List Value}(hk:Keeps D w w')(hD:∀ g,D g->D' g)(h:CFit w D M V is cs):CFit w' D' M V is cs:=
 ⟨h.1,fun j x v h1 h2=>⟨(h.2 j x v h1 h2).1.stay hk hD,(h.2 j x v h1 h2).2⟩⟩
structure HR (cx:Cx) (B:BL) (R:RL) (M:Nat->Nat) (V:Nat->Value) (w:World):Prop where
 below:Bex cx.bor cx.w0 w
 d0:∀ g,cx.D0 g->g<cx.w0.heap.size/\¬ cx.bor g
 bl:∀ g,cx.bor g->g<cx.w0.heap.size
 gl:∀ g cs,(g,cs)∈cx.gl->(g<cx.w0.heap.size/\¬ cx.bor g) /\ ∀ (j:Nat) v,cs[j]?=some v->cx.w0.cell? ⟨g,j,none⟩=some v
 box:∀ b x,lk b B=some x->(cx.w0.heap.size<=M b\/cx.bor (M b)) /\ ∃ cs,Blk w (M b) x.ty cs/\CFit w (Dc cx B R M V w) M V x.cs cs
 row:∀ r x,lk r R=some x->if x.fz then Lies w (Dc cx B R M V w) (datOf x) (V r)else Gx w (Dc cx B R M V w) 0 x.ty x.k (V r) x.n x.ds
 ro:∀ r x g,lk r R=some x->x.fz=false->obs x.ty x.ds (V r) g->cx.w0.heap.size<=g\/cx.bor g
 pin:∀ b,b∈cx.pn->M b=cx.mb b
 bb:∀ b c x y,lk b B=some x->lk c B=some y->M b=M c->b=c
 br:∀ b r x y g,lk b B=some x->lk r R=some y->y.fz=false->obs y.ty y.ds (V r) g->M b≠g
 rr:∀ r q x y g,lk r R=some x->lk q R=some y->x.fz=false->y.fz=false->obs x.ty x.ds (V r) g->obs y.ty y.ds (V q) g->r=q
section
variable{cx:Cx}{B:BL}{R:RL}{M:Nat->Nat}{V:Nat->Value}{w w':World}
theorem Dc.mono(hs:w.heap.size<=w'.heap.size){g:Nat}(h:Dc cx B R M V w g):Dc cx B R M V w' g:=by
 rcases h with h | ⟨h1,h2,h3⟩
 ·exact .inl h
 ·exact .inr ⟨h1,by omega,h3⟩
theorem HR.dlt(h:HR cx B R M V w){g:Nat}(hg:Dc cx B R M V w g):g<w.heap.size:=by
 rcases hg with hg | hg
 ·have:=(h.d0 g hg).1
  have:=h.below.size
  omega
 grind
theorem HR.keeps(h:HR cx B R M V w)(hb:Below w.heap.size w w'):Keeps (Dc cx B R M V w) w w':=.of_below hb fun _ hg=>h.dlt hg
theorem HR.step(h:HR cx B R M V w)(hb:Below w.heap.size w w'):HR cx B R M V w':=by
 have hk:=h.keeps hb
 have hD:∀ g,Dc cx B R M V w g->Dc cx B R M V w' g:=fun g hg=>hg.mono hb.size
 refine⟨h.below.step hb,h.d0,h.bl,h.gl,fun b x hx=>?_,fun r x hx=>?_,h.ro,h.pin,h.bb,h.br,h.rr⟩
 ·obtain⟨h1,cs,h2,h3⟩:=h.box b x hx
  exact⟨h1,cs,h2.kept hb,h3.stay hk hD⟩
 ·have h1:=h.row r x hx
  split
  ·rename_i hf
   rw[if_pos hf]at h1
   exact h1.stay hk hD
  ·rename_i hf
   rw[if_neg hf]at h1
   exact Gx.stay h1 (fun g hg=>hb.block g (Gx.lt h1 g hg)) hk hD
theorem HR.cell(h:HR cx B R M V w){g j:Nat}{cs:List Value}(hg:(g,cs)∈cx.gl){v:Value}(hv:cs[j]?=some v):w.cell? ⟨g,j,none⟩=some v:=
 (World.cell?_of_block (a:=⟨g,j,none⟩) (h.below.block g (h.gl g cs hg).1.1 (h.gl g cs hg).1.2)).trans ((h.gl g cs hg).2 j v hv)
end
def TR(cx:Cx)(T:TL)(B:BL)(R:RL)(M:Nat->Nat)(V:Nat->Value)(a:Act)(w:World):Prop:=∀ t x,lk t T=some x->VR w (Dc cx B R M V w) M V x (a.tmps.getD t undef)
structure Rel (cx:Cx) (T:TL) (B:BL) (R:RL) (M:Nat->Nat) (V:Nat->Value) (a:Act) (w:World):Prop where
 size:a.tmps.size=cx.n
 defers:a.defers=[]
 heap:HR cx B R M V w
 tmp:TR cx T B R M V a w
def E(cx:Cx)(T:TL)(B:BL)(R:RL)(K:Act->World->Prop):Prop:=∀ M V a w,Rel cx T B R M V a w->K a w
theorem E.mono{cx:Cx}{T:TL}{B:BL}{R:RL}{K K':Act->World->Prop}(h:E cx T B R K)(hk:∀ a w,K a w->K' a w):E cx T B R K':=fun M V a w hr=>hk a w (h M V a w hr)
theorem FT(a:Act)(d t:Nat)(v:Value)(hd:d<a.tmps.size):(a.put (some d) v).tmps.getD t undef=if d=t then v else a.tmps.getD t undef:=by
 simp only[Act.put,Array.getD_eq_getD_getElem?,Array.getElem?_setIfInBounds]
 grind
theorem TR.put{cx:Cx}{T:TL}{B:BL}{R:RL}{M:Nat->Nat}{V:Nat->Value}{a:Act}{w w':World}(h:TR cx T B R M V a w)(hk:Keeps (Dc cx B R M V w) w w')(hs:w.heap.size<=w'.heap.size){d:Nat}(hd:d<a.tmps.size){x:IV}{v:Value}(hv:VR w' (Dc cx B R M V w') M V x v):
  TR cx ((d,x)::T) B R M V (a.put (some d) v) w':=fun t y hy=>by
 rw[FT a d t v hd]
 rcases AE hy with⟨rfl,rfl⟩ | ⟨hne,hy⟩
 ·grind
 ·rw[if_neg hne]
  exact(h t y hy).stay hk fun g hg=>hg.mono hs
theorem Rel.put{cx:Cx}{T:TL}{B:BL}{R:RL}{M:Nat->Nat}{V:Nat->Value}{a:Act}{w w':World}(h:Rel cx T B R M V a w)(hb:Below w.heap.size w w'){d:Nat}(hd:d<cx.n){x:IV}{v:Value}(hv:VR w' (Dc cx B R M V w') M V x v):
  Rel cx ((d,x)::T) B R M V (a.put (some d) v) w':=
 ⟨by simpa[Act.put]using h.size,h.defers,h.heap.step hb,h.tmp.put (h.heap.keeps hb) hb.size (by rw[h.size];exact hd) hv⟩
end
end Go.Proofs.Ytecfdcdkkgmkpaa
