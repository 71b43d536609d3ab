/- Part 16. Conditions: as each theorem says. -/
import Derived.Test.YtgcphgdkddihcaaGreatDoorSR15
import Derived.Test.YtgcphgdkddihcaaGreatDoorProg
set_option maxRecDepth 100000
namespace Go.Proofs.YtgcphgdkddihcaaGreatDoor
open Go.RowKit
section
section
variable{P:Program}{ops:Array Oper}{C:World->Prop}{R:World->World->Prop}
theorem X3{Q:List C9->Act->Prop}{l2:List Oper}{k2:List Kind}:∀ (l1:List Oper) (k1:List Kind) {G:List C9} {a:Act},k1.length=l1.length->wpT P ops R C (fun G a=>wpT P ops R C Q l2 k2 G a) l1 k1 G a->wpT P ops R C Q (l1++l2) (k1++k2) G a
 | [],[],_,_,_,h=>h
 | [],_::_,_,_,hl,_=>by cases hl
 | _::_,[],_,_,hl,_=>by cases hl
 | _::l1,_::k1,_,_,hl,h=>⟨h.1,fun v hv=>X3 l1 k1 (Nat.succ.inj hl) (h.2 v hv)⟩
theorem N1{Q Q':List C9->Act->Prop}(hQ:∀ G a,Q G a->Q' G a):∀ (l:List Oper) (k:List Kind) {G:List C9} {a:Act},wpT P ops R C Q l k G a->wpT P ops R C Q' l k G a
 | [],_,_,_,h=>hQ _ _ h
 | _::_,[],_,_,h=>h
 | _::l,_::k,_,_,h=>⟨h.1,fun v hv=>N1 hQ l k (h.2 v hv)⟩
theorem Q61(a:Act){d:Option Tmp}{t:Nat}(v:Value)(h:d≠some t):(a.put d v).tmps.getD t undef=a.tmps.getD t undef:=by
 cases d with
 | none=>rfl
 | some d=>
  have hne:d≠t:=fun e=>h (by rw[e])
  simp only[Act.put,Array.getD_eq_getD_getElem?,Array.getElem?_setIfInBounds]
  rw[if_neg hne]
theorem SE{Q:List C9->Act->Prop}:∀ (l:List Oper) (k:List Kind) {G:List C9} {a:Act},wpT P ops R C Q l k G a->wpT P ops R C (fun G' a'=>Q G' a' /\ ∀ t,(∀ o∈l,o.dst≠some t)->a'.tmps.getD t undef=a.tmps.getD t undef) l k G a
 | [],_,_,_,h=>⟨h,fun _ _=>rfl⟩
 | _::_,[],_,_,h=>h
 | o::l,_::k,_,a,h=>⟨h.1,fun v hv=>N1 (fun _ _ ⟨h1,h2⟩=>⟨h1,fun t ht=>(h2 t fun o ho=>ht o (List.mem_cons_of_mem _ ho)).trans (Q61 a v (ht o List.mem_cons_self))⟩) l k (SE l k (h.2 v hv))⟩
theorem AllStay.app:∀ {l m:List Kind},AllStay R l->AllStay R m->AllStay R (l++m)
 | [],_,_,h=>h
 | _::_,_,h1,h2=>⟨h1.1,AllStay.app h1.2 h2⟩
end
section
variable{P:Program}{cx:Cx}{T T':TL}{B:BL}{R:RL}
theorem Walk.len{ops:Array Oper}{l:List Oper}{ys:List IV}(h:Walk P cx B R ops l T ys T'):ys.length=l.length:=by
 induction h with
 | nil=>rfl
 | op _ _ _ _ _ ih=>simp[ih]
 | gd _ _ _ _ _ _ ih=>simp[ih]
def Dat.plain:Dat->Bool
 | .cell _=>true
 | _=>false
def IV.free:IV->Bool
 | .part (.one d)=>d.plain
 | .part (.many ds)=>ds.all Dat.plain
 | .opt _ x=>x.free
 | .junk=>true
 | _=>false
theorem RN{d:Dat}(h:d.plain=true){w w':World}{D D':Nat->Prop}{v:Value}(hv:Lies w D d v):Lies w' D' d v:=by
 cases d with
 | cell c=>obtain rfl:=hv.cell_eq;exact .cell _
 | _=>cases h
theorem Q1:∀ {x:IV} (_:x.free=true) {w w':World} {D D':Nat->Prop} {M M':Nat->Nat} {V V':Nat->Value} {v:Value},VR w D M V x v->VR w' D' M' V' x v
 | .part (.one _),h,_,_,_,_,_,_,_,_,_,hv=>RN h hv
 | .part (.many ds),h,w,w',D,D',M,M',V,V',v,hv=>by
  obtain⟨xs,h1,h2⟩:=hv
  refine⟨xs,h1,h2.1,fun j d u hd hu=>RN (List.all_eq_true.1 h d (List.mem_of_getElem? hd)) (h2.2 j d u hd hu)⟩
 | .opt _ x,h,_,_,_,_,_,_,_,_,_,hv=>⟨fun e=>Q1 (show x.free=true from h) (hv.1 e),hv.2⟩
 | .junk,_,_,_,_,_,_,_,_,_,_,_=>trivial
def SubN(T T':TL)(l:List Oper):TL->Prop
 | []=>True
 | x::m=>((lk x.1 T'=some x.2/\x.2.free=true)\/(lk x.1 T=some x.2/\l.all (fun o=>match o.dst with | some d => !Nat.beq d x.1 | none=>true)=true))/\SubN T T' l m
theorem SubN.get{l:List Oper}:∀ {T0:TL},SubN T T' l T0 -> ∀ {t x},lk t T0=some x->(lk t T'=some x/\x.free=true)\/(lk t T=some x /\ ∀ o∈l,o.dst≠some t)
 | [],_,_,_,h=>by cases h
 | y::m,hs,t,x,h=>by
  rcases AK (show lk t ((y.1,y.2)::m)=some x from h)with⟨rfl,rfl⟩ | ⟨_,h⟩
  ·rcases hs.1 with h1 | ⟨h1,h2⟩
   ·exact .inl h1
   ·refine .inr ⟨h1,fun o ho e=>?_⟩
    have h3:=List.all_eq_true.1 h2 o ho
    rw[e]at h3
    simp at h3
  ·exact hs.2.get h
theorem LS(n b:Nat){id:Nat}{l:List Oper}{on:Oper}{d:Nat}{ty:TypeId}{zs:List Value}{Q:Exit->Act->World->Prop}{ys:List IV}(T0:TL)(hm:P.follows .mixedOrders=true)(hB:Region.lexTailB .any l.toArray (n+1)=true)
  (hon:l[n]?=some on) (hg:on.guard=none) (hd:on.dst=some d) (hn:Nat.blt d cx.n=true) (ho:on.op=.alloc ty) (hz:C5 P ty=some zs) (h1:zs.all Value.oneCell'=true) (hpn:cx.pn.all (fun c => !Nat.beq c b)=true) (hT:OO b T=true) (hBb:MM b B=true)
  (hW:Walk P cx B R l.toArray (l.take n) T ys T') (hs:SubN T T' (l.take n) T0) (h:E cx ((d,.box b 0)::T0) ((b,⟨ty,bcs (zs.map Dat.cell)⟩)::B) R (wpList P l.toArray Q (l.drop (n+1)))):
  E cx T B R ((Code.region id l.toArray true).wp P Q):=fun M V a w hr=>by
 have h00:Ct cx T B R M V a w.drew:=Ct.stay w _ (Below.refl _ _).drew ⟨hr.heap,hr.tmp⟩
 have hr0:Rel cx T B R M V a w.drew:=⟨hr.size,hr.defers,h00.1,h00.2⟩
 let C:World->Prop:=fun w'=>Ct cx T B R M V a w'/\Below w.drew.heap.size w.drew w'
 have hC:CV Rb C:=fun w1 w2 hb h=>⟨Ct.stay w1 w2 hb h.1,h.2.trans (hb.mono h.2.size)⟩
 let k:Kind:=Kind.of fun v w'=>∃ g,v=.pointer (some ⟨g,0,none⟩)/\w.drew.heap.size<=g/\Blk w' g ty zs
 have hk:∀ v,CV Rb (k.pred v):=fun v w1 w2 hb ⟨g,e1,e2,e3⟩=>⟨g,e1,e2,e3.kept hb⟩
 have h0:C w.drew:=⟨h00,Below.refl _ _⟩
 refine GK (n+1) C Rb (ys.map (E6 cx B R M V)++[k]) hm hB hC ((F3 ys).app ⟨hk,trivial⟩) h0 ?_
 have htk:l.take (n+1)=l.take n++[on]:=by rw[List.take_add_one,hon];rfl
 rw[htk]
 refine X3 _ _ (by rw[List.length_map,hW.len]) ?_
 refine N1 (Q:=fun G' a'=>(a'.tmps.size=cx.n/\a'.defers=[]/\Gt cx B R M V C T' G' a') /\ ∀ t,(∀ o∈l.take n,o.dst≠some t)->a'.tmps.getD t undef=a.tmps.getD t undef) (fun G' a' ⟨⟨q1,q2,q3⟩,q4⟩=>?_) _ _ (SE _ _ (hW.wpT (fun w h=>h.1.1) ⟨_,h0⟩ hr.size hr.defers (fun t x hx=>.inl fun w h=>h.1.2 t x hx) fun G' a' q1 q2 q3=>⟨q1,q2,q3⟩))
 refine⟨?_,fun v _ w' hc hF=>?_⟩
 ·unfold AskT
  rw[if_pos (by simp[Region.wanted,hg])]
  intro w1 hc _
  unfold EP
  cases hi:P.info? ty with
  | none=>simp[C5,hi]at hz
  | some i=>
   cases hzz:i.zero with
   | none=>simp[C5,hi,hzz]at hz
   | some z=>
    have hzc:z.cells=zs.toArray:=by
     have:z.cells.toList=zs:=by simpa[C5,hi,hzz]using hz
     rw[<- this]
    unfold execOp
    simp only[ho,Sem.run_bind]
    simp[Instr.alloc,zeroValue,typeInfo,hi,hzz,newVar,newRow,hzc]
    exact⟨(Below.refl _ _).alloc (Nat.le_refl _) _,fun c h=>(by cases h),w1.heap.size,rfl,hc.2.size,Blk.new _ _ _⟩
 ·obtain⟨g,e1,e2,e3⟩:=hF (some d,k.pred v) (by rw[hd];exact List.mem_cons_self)
  subst e1
  obtain⟨M',hMb,hr'⟩:=hr0.newbox hc.2 b (ds:=zs.map Dat.cell) e2 e3 ⟨by simp,fun j x u hx hu=>by
   rw[List.getElem?_map,hu]at hx
   obtain rfl:=Option.some.inj hx
   exact .cell _⟩ (fun c hcm=>List.all_eq_true.1 h1 c hcm) hpn hT hBb
  have hrel:=q3.rel (fun w h=>h.1.1) q1 q2 hc fun f hf=>hF f (List.mem_cons_of_mem _ hf)
  refine h M' V _ w' ⟨by rw[hd];simpa[Act.put]using q1,by rw[hd];exact q2,hr'.heap,fun t x hx=>?_⟩
  rw[hd,EW a' d t _ (by rw[q1];exact C0 hn)]
  rcases AK hx with⟨rfl,rfl⟩ | ⟨hne,hx⟩
  ·rw[if_pos rfl]
   show _=_
   rw[hMb]
  ·rw[if_neg hne]
   rcases hs.get hx with⟨f1,f2⟩ | ⟨f1,f2⟩
   ·exact Q1 f2 (hrel.tmp t x f1)
   ·rw[q4 t f2]
    exact hr'.tmp t x f1
end
end
theorem Q3u(gls:List (Nat×List Value))(s:List UInt8)(hs:s.length<=1000000000000):EF Tryz.prog gls 235 [sP s,.one (.cell (.int .u8 46))] (.part (iP (IE s))):=by
 refine AU 19 Tryz.func235 rfl rfl rfl fun w D=>?_
 try refine A0 ?_
 refine A1 (AE rfl rfl rfl rfl rfl .nil) ?_
 try refine A0 ?_
 refine A1 (AA rfl rfl rfl rfl rfl (A5 rfl rfl rfl (GI rfl (kn rfl) str_9) (A5 rfl rfl rfl (AN rfl (kn rfl) (kn rfl) (WU (by first | omega | (dsimp only;omega)))) (AE rfl rfl rfl rfl rfl .nil)))) ?_
 try refine A0 ?_
 refine CB (ι:={ i:Int // -1<=i/\i<(s.length:Int) /\ ∀ j:Nat,i<(j:Int)->s[j]? ≠ some 46 })
  (fun i=>[(0,.part (sP s)),(1,.is (.int .u8 46)),(5,.is (.int .i64 i.1))]) (fun _=>[]) (fun _=>[]) (fun i=>(i.1+1).toNat)
  ⟨(s.length:Int)-1,by omega,by omega,fun j hj=>by rw[List.getElem?_eq_none (by omega)];simp⟩
  (fun K=>B8 ⟨s_t,s_t,s_t,trivial⟩ trivial trivial) ?_
 rintro⟨i,hi,hi2,hn⟩
 dsimp only at hi hi2 hn ⊢
 try refine A0 ?_
 refine A1 (AA rfl rfl rfl rfl rfl (A5 rfl rfl rfl (AN rfl (kn rfl) (kn rfl) IJ) .nil)) ?_
 try refine A0 ?_
 refine AO rfl (fun h=>?_) (fun h=>?_)
 ·have h0:0<=i:=of_decide_eq_true h
  obtain⟨k,rfl⟩:∃ k:Nat,i=(k:Int):=⟨i.toNat,by omega⟩
  have hk:k<s.length:=by omega
  obtain⟨c,hc⟩:∃ c,s[k]?=some c:=⟨_,List.getElem?_eq_getElem hk⟩
  try refine A0 ?_
  refine A1 (AA rfl rfl rfl rfl rfl (AA rfl rfl rfl rfl rfl (A5 rfl rfl rfl (XZ rfl (kn rfl) (kn rfl) (by omega) hc str_9) (AA rfl rfl rfl rfl rfl (A5 rfl rfl rfl (AN rfl (kn rfl) (kn rfl) D3) .nil))))) ?_
  try refine A0 ?_
  refine AO rfl (fun h1=>?_) (fun h1=>?_)
  ·have hc2:c=46:=by
    have:=of_decide_eq_true h1
    exact UInt8.toNat_inj.1 (show c.toNat=46 by omega)
   subst hc2
   rw[YQ hc fun j hj=>hn j (by omega)]
   try refine A0 ?_
   refine A1 (AA rfl rfl rfl rfl rfl (AE rfl rfl rfl rfl rfl .nil)) ?_
   try refine A0 ?_
   exact AM rfl rfl (.tmp (kn rfl) (.nil)) (Imp.refl _) rfl
  ·have hc2:¬ c=46:=fun e=>by
    subst e
    exact absurd (of_decide_eq_false h1) (by decide)
   try refine A0 ?_
   refine A1 (AA rfl rfl rfl rfl rfl (A5 rfl rfl rfl (AN rfl (kn rfl) (kn rfl) (WU (by first | omega | (dsimp only;omega)))) (AE rfl rfl rfl rfl rfl .nil))) ?_
   try refine A0 ?_
   refine BB ⟨(k:Int)-1,by omega,by omega,fun j hj=>?_⟩ (by dsimp only;omega) (fun K=>B8 ⟨s_t,s_t,s_t,trivial⟩ trivial trivial)
   by_cases e:j=k
   ·subst e
    rw[hc]
    exact fun e=>hc2 (Option.some.inj e)
   ·exact hn j (by omega)
 ·have h0:i = -1:=by have:=of_decide_eq_false h;omega
  subst h0
  rw[MJ fun j=>hn j (by omega)]
  try refine A0 ?_
  refine A1 (AE rfl rfl rfl rfl rfl .nil) ?_
  try refine A0 ?_
  exact AM rfl rfl (.tmp (kn rfl) (.nil)) (Imp.refl _) rfl
theorem Q5g(gls:List (Nat×List Value))(s:List UInt8)(hs:s.length<=1000000000000):EF Tryz.prog gls 210 [sP s,sP [46]] (.part (iP (IE s))):=by
 refine AU 36 Tryz.func210 rfl rfl rfl fun w D=>?_
 try refine A0 ?_
 refine A1 (AE rfl rfl rfl rfl rfl .nil) ?_
 try refine A0 ?_
 refine A1 (AA rfl rfl rfl rfl rfl (A5 rfl rfl rfl (GI rfl (kn rfl) str_9) (AE rfl rfl rfl rfl rfl .nil))) ?_
 try refine A0 ?_
 refine A1 (AA rfl rfl rfl rfl rfl (A5 rfl rfl rfl (AN rfl (kn rfl) (kn rfl) D3) (AE rfl rfl rfl rfl rfl .nil))) ?_
 try refine A0 ?_
 refine AO rfl (fun h=>absurd h (by decide)) (fun _=>?_)
 try refine A0 ?_
 refine A1 (AA rfl rfl rfl rfl rfl (A5 rfl rfl rfl (AN rfl (kn rfl) (kn rfl) D3) (AE rfl rfl rfl rfl rfl .nil))) ?_
 try refine A0 ?_
 refine AO rfl (fun _=>?_) (fun h=>absurd h (by decide))
 try refine A0 ?_
 refine A1 (AA rfl rfl rfl rfl rfl (AA rfl rfl rfl rfl rfl (A5 rfl rfl rfl (XZ rfl (kn rfl) (kn rfl) (by omega) (show([46]:List UInt8)[0]?=some 46 from rfl) str_9) (A5 rfl rfl rfl (AY rfl (by kernel_rfl) (Q3u gls s hs) ⟨(kn rfl),⟨(kn rfl),trivial⟩⟩) (AE rfl rfl rfl rfl rfl .nil))))) ?_
 try refine A0 ?_
 exact AM rfl rfl (.tmp (kn rfl) (.nil)) (Imp.refl _) rfl
theorem Q6B(s:List UInt8):max (IE s) 0=(Y2 s:Int):=by
 unfold Y2
 omega
theorem ZH(gls:List (Nat×List Value))(s:List UInt8)(hs:s.length<=1000000000000):EF Tryz.prog gls 176 [sP s] (.tup [sP (LT s),bP (!decide (s=[]))]):=by
 refine AU 11 Tryz.func176 rfl rfl rfl fun w D=>?_
 try refine A0 ?_
 refine A1 (AE rfl rfl rfl rfl rfl (AE rfl rfl rfl rfl rfl .nil)) ?_
 try refine A0 ?_
 have hc:=VO s
 have hm:=Q6B s
 refine A1 (AA rfl rfl rfl rfl rfl (AA rfl rfl rfl rfl rfl (A5 rfl rfl rfl (AY rfl (by kernel_rfl) (Q5g gls s hs) ⟨(kn rfl),⟨(kn rfl),trivial⟩⟩) (A5 rfl rfl rfl (Q7N rfl (kn rfl) (kn rfl)) (A5 rfl rfl rfl (P5 rfl (kn rfl) (kn rfl) (by rw[hm];omega) str_9) (AA rfl rfl rfl rfl rfl (A5 rfl rfl rfl (AN rfl (kn rfl) (kn rfl) (RT (b:=[]))) (AE rfl rfl rfl rfl rfl (AE rfl rfl rfl rfl rfl .nil))))))))) ?_
 try refine A0 ?_
 exact AM rfl rfl (.tmp (kn rfl) (.tmp (kn rfl) (.nil))) (Imp.of_eq (by rw[hm];unfold LT;cases s<;>(simp;rfl))) rfl
abbrev sfD(line col:Int)(v:Er):Dat:=.ifc 124 (.ptr 126 [.cell (.int .i64 line),.cell (.int .i64 col),.cell (eV v)])
abbrev tyP(x:Ty):Part:=.many x.dats
theorem VA(gls:List (Nat×List Value))(x:Ty)(v:Er):EF Tryz.prog gls 174 [tyP x,.one (.cell (eV v))] (.part (.one (sfD x.line x.col v))):=by
 refine AU 13 Tryz.func174 rfl rfl rfl fun w D=>?_
 try refine A0 ?_
 refine A8 ?_
 refine DZ 2 rfl rfl rfl rfl (kn rfl) rfl rfl rfl rfl ?_
 refine AG ?_
 refine A6 ?_
 try refine A0 ?_
 refine A8 ?_
 refine AB (A3 rfl (kn rfl) off_192_3) ?_
 refine AB (A4 rfl (kn rfl) rfl rfl one_3) ?_
 refine AB (A3 rfl (kn rfl) off_192_4) ?_
 refine AB (A4 rfl (kn rfl) rfl rfl one_3) ?_
 refine AJ ?_
 refine AB (B9 (ds:=[_,_,_]) [(0,_),(1,_),(2,_)] rfl ⟨rfl,(kn rfl),⟨rfl,(kn rfl),⟨rfl,(kn rfl),trivial⟩⟩⟩ rfl pl_126 zr_126 (fun w D=>.cons (.cell _) (.cons (.cell _) (.cons (.cell _) (.nil _ _)))) rfl) ?_
 refine DZ 11 rfl rfl rfl rfl (kn rfl) rfl rfl rfl rfl ?_
 refine FA 11 11 rfl rfl rfl ?_
 refine ES rfl rfl rfl (WG rfl (kn rfl) (by kernel_rfl)) ?_
 refine AG ?_
 refine A6 ?_
 try refine A0 ?_
 exact AM rfl rfl (.tmp (kn rfl) (.nil)) (Imp.refl _) rfl
def SD(L:List Ty):List Dat:=tds L++[.cell (.int .i64 (L.length:Int)),.map (plc L).length (mds kS (plc L)),.map (NZ L).length (mds kI (NZ L))]
abbrev Q3K(L:List Ty):Dat:=.ptr 195 (SD L)
abbrev Q0n(L:List Ty):Part:=.one (Q3K L)
theorem MQ{L:List Ty}(h:L.length<=40)(k:Nat):(SD L).drop (200+k)=[Dat.cell (.int .i64 (L.length:Int)),.map (plc L).length (mds kS (plc L)),.map (NZ L).length (mds kI (NZ L))].drop k:=by
 unfold SD
 rw[List.drop_append,IL h,List.drop_eq_nil_of_le (by rw[IL h];omega),List.nil_append,Nat.add_sub_cancel_left]
theorem Q1I{L:List Ty}{i:Nat}{x:Ty}(hx:L[i]?=some x):(pad L)[i]?=some x:=by
 unfold pad
 rw[List.getElem?_append_left (List.getElem?_eq_some_iff.1 hx).1]
 exact hx
theorem Q14{α:Type}{f:α->List Dat}{k:Nat}(hk:∀ a,(f a).length=k):∀ {qs:List α} {i:Nat} {a:α},qs[i]?=some a -> ∃ r,(qs.flatMap f).drop (i*k)=f a++r
 | [],i,a,h=>by simp at h
 | q::qs,0,a,h=>by
  obtain rfl:q=a:=by simpa using h
  exact⟨_,by rw[Nat.zero_mul,List.drop_zero,List.flatMap_cons]⟩
 | q::qs,i+1,a,h=>by
  obtain⟨r,hr⟩:=Q14 hk (qs:=qs) (i:=i) (a:=a) (by simpa using h)
  refine⟨r,?_⟩
  rw[List.flatMap_cons,List.drop_append,hk,List.drop_eq_nil_of_le (by rw[hk,Nat.succ_mul];omega),List.nil_append,Nat.succ_mul,Nat.add_sub_cancel]
  exact hr
theorem Q7r{L:List Ty}{i:Nat}{x:Ty}(hx:L[i]?=some x):∃ r,(SD L).drop (i*5)=x.dats++r:=by
 obtain⟨r,hr⟩:=Q14 Ty.dats_len (Q1I hx)
 have hi:i*5<=(tds L).length:=by
  have h1:=(List.getElem?_eq_some_iff.1 (Q1I hx)).1
  show i*5<=((pad L).flatMap Ty.dats).length
  rw[IW Ty.dats_len]
  omega
 refine⟨r++[Dat.cell (.int .i64 (L.length:Int)),.map (plc L).length (mds kS (plc L)),.map (NZ L).length (mds kI (NZ L))],?_⟩
 unfold SD
 rw[List.drop_append_of_le_length hi]
 show((pad L).flatMap Ty.dats).drop (i*5)++_=_
 rw[hr,List.append_assoc]
theorem Q3z{L:List Ty}(h:L.length<=40):(SD L).take (L.length*5)=L.flatMap Ty.dats:=by
 have h1:L.length*5<=(tds L).length:=by rw[IL h];omega
 unfold SD
 rw[List.take_append_of_le_length h1]
 unfold tds pad
 rw[List.flatMap_append]
 have h2:(L.flatMap Ty.dats).length=L.length*5:=IW Ty.dats_len L
 rw[<- h2,List.take_left]
theorem Q4x{L:List Ty}(h:L.length<=40):(SD L).length=203:=by
 unfold SD
 rw[List.length_append,IL h]
 rfl
theorem Q60:Tryz.prog.underlying 193=some (.array (Tryz.prog.arrayLen 193) (Tryz.prog.elem 193)):=by kernel_rfl
theorem Q6u:Tryz.prog.arrayLen 193=40:=by kernel_rfl
theorem Q6Q:sizeT Tryz.prog (Tryz.prog.elem 193)=some 5:=by kernel_rfl
theorem Q6R:Tryz.prog.underlying 190=some (.map 9 3):=by kernel_rfl
theorem Q7O:Tryz.prog.underlying 191=some (.map 3 4):=by kernel_rfl
theorem kfS:KeyF Tryz.prog 9 kS:=Q6T str_9
theorem kfI:KeyF Tryz.prog 3 kI:=Q6N int_3
theorem zI:NN Tryz.prog 3=some (.int .i64 0):=by kernel_rfl
theorem zB:NN Tryz.prog 4=some (.bool false):=by kernel_rfl
def Q3D(L:List Ty)(x:List UInt8):IV:=.tup [tyP ((D2 x L).getD ty0),bP (D2 x L).isSome]
theorem QB(gls:List (Nat×List Value))(L:List Ty)(hL:GC L)(x:List UInt8):EF Tryz.prog gls 173 [Q0n L,sP x] (Q3D L x):=by
 have h40:=hL.2
 have hg:=Q6l hL.1 x
 have hfi:=V7 x L
 refine AU 26 Tryz.func173 rfl rfl rfl fun w D=>?_
 try refine A0 ?_
 refine Q3T 0 rfl (Imp.ptr_ref _ _) ?_
 refine A8 ?_
 refine AS 4 [.is (.string ⟨#[]⟩),.is (.bool false),.is (.int .i64 0),.is (.int .i64 0),.is (.int .i64 0)] rfl rfl rfl rfl zr_192 (fun w D M V=>⟨rfl,fun j x v h1 h2=>AR _ h1 h2 rfl⟩) rfl rfl rfl rfl ?_
 refine AG ?_
 refine A6 ?_
 try refine A0 ?_
 cases hf:ML x L with
 | none=>
  rw[hf]at hg hfi
  try refine A0 ?_
  refine A1 (AA rfl rfl rfl rfl rfl (A5 rfl rfl rfl (AW rfl (kn rfl)) (A5 rfl rfl rfl (EQ rfl (kn rfl) off_195_2 (MQ h40 1)) (A5 rfl rfl rfl (AD rfl (kn rfl) one_190) (AA rfl rfl rfl rfl rfl (A5 rfl rfl rfl (XX (kf:=kS) x _ hg rfl (kn rfl) (kn rfl) kfS Q6R zI) (AA rfl rfl rfl rfl rfl (A5 rfl rfl rfl (BN rfl (kn rfl) rfl) (A5 rfl rfl rfl (BN rfl (kn rfl) rfl) (AE rfl rfl rfl rfl rfl (AE rfl rfl rfl rfl rfl .nil))))))))))) ?_
  try refine A0 ?_
  refine A1 (AA rfl rfl rfl rfl rfl (A5 rfl rfl rfl (DL rfl (kn rfl)) .nil)) ?_
  try refine A0 ?_
  refine BD ?_
  try refine A0 ?_
  refine A8 ?_
  refine AB (B9 (ds:=[_,_,_,_,_]) [] rfl trivial rfl pl_192 zr_192 (fun w D=>.cons (.cell _) (.cons (.cell _) (.cons (.cell _) (.cons (.cell _) (.cons (.cell _) (.nil _ _)))))) rfl) ?_
  refine AI rfl rfl rfl (kn rfl) rfl (kn rfl) rfl rfl sz_192 ?_
  refine AG ?_
  refine A6 ?_
  try refine A0 ?_
  exact AM rfl rfl (.cell rfl rfl rfl agg_192 sz_192 rfl (.tmp (kn rfl) (.nil))) (Imp.of_eq (by unfold Q3D;rw[hfi];rfl)) rfl
 | some j=>
  rw[hf]at hg hfi
  obtain⟨t,ht,htx⟩:=Q1W hf
  obtain⟨r,hr⟩:=Q7r ht
  have hj:j<L.length:=(List.getElem?_eq_some_iff.1 ht).1
  have hfi2:D2 x L=some t:=hfi.trans ht
  try refine A0 ?_
  refine A1 (AA rfl rfl rfl rfl rfl (A5 rfl rfl rfl (AW rfl (kn rfl)) (A5 rfl rfl rfl (EQ rfl (kn rfl) off_195_2 (MQ h40 1)) (A5 rfl rfl rfl (AD rfl (kn rfl) one_190) (AA rfl rfl rfl rfl rfl (A5 rfl rfl rfl (XX (kf:=kS) x _ hg rfl (kn rfl) (kn rfl) kfS Q6R zI) (AA rfl rfl rfl rfl rfl (A5 rfl rfl rfl (BN rfl (kn rfl) rfl) (A5 rfl rfl rfl (BN rfl (kn rfl) rfl) (AE rfl rfl rfl rfl rfl (AE rfl rfl rfl rfl rfl .nil))))))))))) ?_
  try refine A0 ?_
  refine A1 (AA rfl rfl rfl rfl rfl (A5 rfl rfl rfl (DL rfl (kn rfl)) .nil)) ?_
  try refine A0 ?_
  refine C1 ?_
  try refine A0 ?_
  refine A8 ?_
  refine AJ ?_
  refine AJ ?_
  refine AB (AW rfl (kn rfl)) ?_
  refine AB (EQ rfl (kn rfl) off_195_0 rfl) ?_
  refine AB (W4 (z:=(j:Int)) rfl (kn rfl) (kn rfl) (by rw[Q6u];omega) Q60 Q6Q hr) ?_
  refine AB (Z2 5 rfl (kn rfl) agg_192 sz_192 (by rw[List.length_append,Ty.dats_len];omega)) ?_
  refine AI rfl rfl rfl (kn rfl) rfl (kn rfl) rfl rfl sz_192 ?_
  refine AG ?_
  refine A6 ?_
  try refine A0 ?_
  exact AM rfl rfl (.cell rfl rfl rfl agg_192 sz_192 rfl (.tmp (kn rfl) (.nil))) (Imp.of_eq (by unfold Q3D;rw[hfi2];rfl)) rfl
def CA(en:Bool)(L:List Ty):List (List UInt8):=(L.filter fun t=>t.en==en).map (·.full)
theorem Z9(en:Bool)(L:List Ty):(CA en L).length=cnt en L:=by
 unfold CA cnt
 rw[List.length_map]
theorem Q17(en:Bool)(L:List Ty)(x:Ty):CA en (L++[x])=CA en L++(if(x.en==en)=true then[x.full]else[]):=by
 unfold CA
 rw[List.filter_append,List.map_append]
 congr 1
 rw[List.filter_cons]
 split<;>rfl
theorem WB(en:Bool)(L:List Ty):(CA en L).length<=L.length:=by
 unfold CA
 rw[List.length_map]
 exact List.length_filter_le _ _
def Q6V(en:Bool)(L:List Ty):Part:=.one (.row 1 (CA en L).length ((CA en L).flatMap textDats))
theorem QN(gls:List (Nat×List Value))(L:List Ty)(hL:GC L)(en:Bool):EF Tryz.prog gls 81 [Q0n L,bP en] (.part (Q6V en L)):=by
 have h40:=hL.2
 refine AU 32 Tryz.func81 rfl rfl rfl fun w D=>?_
 try refine A0 ?_
 refine Q3T 0 rfl (Imp.ptr_ref _ _) ?_
 refine A1 (AE rfl rfl rfl rfl rfl .nil) ?_
 try refine A0 ?_
 refine A1 (AE rfl rfl rfl rfl rfl .nil) ?_
 try refine A0 ?_
 refine FI mixed (by kernel_rfl) (AA rfl rfl rfl rfl rfl (A5 rfl rfl rfl (AW rfl (kn rfl)) (A5 rfl rfl rfl (EQ rfl (kn rfl) off_195_0 rfl) (AA rfl rfl rfl rfl rfl (A5 rfl rfl rfl (AW rfl (kn rfl)) (A5 rfl rfl rfl (EQ rfl (kn rfl) off_195_1 (MQ h40 0)) (A5 rfl rfl rfl (AD rfl (kn rfl) one_3) (A5 rfl rfl rfl (VL (z:=(L.length:Int)) rfl (kn rfl) (kn rfl) (by rw[Q6u];omega) (by rw[Q6u];omega) Q60 Q6Q (by rw[List.drop_zero,Q4x h40];omega) (Q3z h40)) (A5 rfl rfl rfl (CI rfl (kn rfl) sle_271) (AA rfl rfl rfl rfl rfl .nil)))))))))) ?_
 try refine A0 ?_
 refine Q04 5 100 9 1 rfl rfl rfl ?_
 refine CB (ι:={ i:Nat // i<=L.length })
  (fun i=>[(1,.is (.bool en)),(5,.own 100),(15,.part (.one (.row 5 L.length (L.flatMap Ty.dats)))),(16,.is (.int .i64 (L.length:Int))),(17,.is (.int .i64 (i.1:Int)))])
  (fun _=>[]) (fun i=>[(100,⟨9,1,(CA en (L.take i.1)).length,(CA en (L.take i.1)).flatMap textDats,false⟩)]) (fun i=>L.length-i.1)
  ⟨0,by omega⟩
  (fun K=>B8 ⟨s_t,s_t,s_t,s_t,s_t,trivial⟩ trivial ⟨rfl,trivial⟩) ?_
 rintro⟨i,hi⟩
 dsimp only at hi ⊢
 try refine A0 ?_
 refine A1 (A5 rfl rfl rfl (AN rfl (kn rfl) (kn rfl) CP) .nil) ?_
 try refine A0 ?_
 refine AO rfl (fun h=>?_) (fun h=>?_)
 ·have hlt:i<L.length:=by have:=of_decide_eq_true h;omega
  obtain⟨x,hx⟩:∃ x,L[i]?=some x:=⟨_,List.getElem?_eq_getElem hlt⟩
  have htk:L.take (i+1)=L.take i++[x]:=by rw[List.take_add_one,hx];rfl
  have hsn:=Q17 en (L.take i) x
  have hnl:=WB en (L.take i)
  rw[List.length_take]at hnl
  rw[<- htk]at hsn
  try refine A0 ?_
  refine A8 ?_
  refine AB (BO rfl (kn rfl) (kn rfl) (by omega) hx Ty.dats_len sle_271 esz_271 rfl) ?_
  refine AB (BQ rfl (kn rfl) agg_192 sz_192) ?_
  refine AS 7 [.is (.string ⟨#[]⟩),.is (.bool false),.is (.int .i64 0),.is (.int .i64 0),.is (.int .i64 0)] rfl rfl rfl rfl zr_192 (fun w D M V=>⟨rfl,fun j x v h1 h2=>AR _ h1 h2 rfl⟩) rfl rfl rfl rfl ?_
  refine AI rfl rfl rfl (kn rfl) rfl (kn rfl) rfl rfl sz_192 ?_
  refine A6 ?_
  try refine A0 ?_
  refine A1 (A5 rfl rfl rfl (A3 rfl (kn rfl) off_192_1) (A5 rfl rfl rfl (A4 rfl (kn rfl) rfl rfl one_4) (AA rfl rfl rfl rfl rfl (A5 rfl rfl rfl (AN rfl (kn rfl) (kn rfl) (Q7A bool_4)) .nil)))) ?_
  try refine A0 ?_
  refine AO rfl (fun h1=>?_) (fun h1=>?_)
  ·rw[if_pos (by simpa using h1)]at hsn
   try refine A0 ?_
   refine A8 ?_
   refine AJ ?_
   refine AB (A3 rfl (kn rfl) off_192_0) ?_
   refine AB (A4 rfl (kn rfl) rfl rfl one_9) ?_
   refine AB (AC (ds:=[_]) [(0,_)] rfl ⟨rfl,(kn rfl),trivial⟩ rfl sl_54 sz_9 zr_9 (fun w D=>.cons (.cell _) (.nil _ _)) rfl rfl rfl rfl rfl) ?_
   refine BV rfl rfl rfl rfl (kn rfl) rfl (kn rfl) sl_54 ap_54 rfl rfl (by first | omega | (dsimp only;omega)) (by first | omega | (dsimp only;omega)) ?_
   refine AG ?_
   refine A6 ?_
   try refine A0 ?_
   try refine A0 ?_
   refine A1 (A5 rfl rfl rfl (AN rfl (kn rfl) (kn rfl) (BF (by first | omega | (dsimp only;omega)))) (AA rfl rfl rfl rfl rfl .nil)) ?_
   try refine A0 ?_
   refine BB ⟨i+1,by omega⟩ (by dsimp only;omega) (fun K=>B8 ⟨s_t,s_t,s_t,s_t,s_t,trivial⟩ trivial ⟨E4 rfl (by rw[hsn];simp) (by rw[hsn];simp[textDats]),trivial⟩)
  ·rw[if_neg (by simpa using h1),List.append_nil]at hsn
   try refine A0 ?_
   refine A1 (A5 rfl rfl rfl (AN rfl (kn rfl) (kn rfl) (BF (by first | omega | (dsimp only;omega)))) (AA rfl rfl rfl rfl rfl .nil)) ?_
   try refine A0 ?_
   refine BB ⟨i+1,by omega⟩ (by dsimp only;omega) (fun K=>B8 ⟨s_t,s_t,s_t,s_t,s_t,trivial⟩ trivial ⟨E4 rfl (by rw[hsn]) (by rw[hsn]),trivial⟩)
 ·obtain rfl:i=L.length:=by have:=of_decide_eq_false h;omega
  rw[List.take_length]
  try refine A0 ?_
  refine TE 5 100 rfl rfl rfl ?_
  refine A1 (AA rfl rfl rfl rfl rfl (AE rfl rfl rfl rfl rfl .nil)) ?_
  try refine A0 ?_
  exact AM rfl rfl (.tmp (kn rfl) (.nil)) (Imp.refl _) rfl
theorem Q4O(gls:List (Nat×List Value))(L:List Ty)(hL:GC L):EF Tryz.prog gls 50 [Q0n L] (.part (Q6V true L)):=by
 refine AU 5 Tryz.func50 rfl rfl rfl fun w D=>?_
 try refine A0 ?_
 refine A1 (AE rfl rfl rfl rfl rfl .nil) ?_
 try refine A0 ?_
 refine A1 (AA rfl rfl rfl rfl rfl (A5 rfl rfl rfl (AY rfl (by kernel_rfl) (QN gls L hL true) ⟨(kn rfl),⟨(kn rfl),trivial⟩⟩) (AE rfl rfl rfl rfl rfl .nil))) ?_
 try refine A0 ?_
 exact AM rfl rfl (.tmp (kn rfl) (.nil)) (Imp.refl _) rfl
theorem Z4(gls:List (Nat×List Value))(L:List Ty)(hL:GC L):EF Tryz.prog gls 49 [Q0n L] (.part (Q6V false L)):=by
 refine AU 5 Tryz.func49 rfl rfl rfl fun w D=>?_
 try refine A0 ?_
 refine A1 (AE rfl rfl rfl rfl rfl .nil) ?_
 try refine A0 ?_
 refine A1 (AA rfl rfl rfl rfl rfl (A5 rfl rfl rfl (AY rfl (by kernel_rfl) (QN gls L hL false) ⟨(kn rfl),⟨(kn rfl),trivial⟩⟩) (AE rfl rfl rfl rfl rfl .nil))) ?_
 try refine A0 ?_
 exact AM rfl rfl (.tmp (kn rfl) (.nil)) (Imp.refl _) rfl
def FH(s:List UInt8):Bool:=match s with | 46::_=>true | _=>false
def OZ(s:List UInt8):List UInt8:=match s with | 46::r=>r | _=>s
theorem Y9(s:List UInt8):FH s=(decide (1<=s.length)&&decide (s.take 1=[46])):=by
 match s with
 | []=>rfl
 | c::r=>
  unfold FH
  split
  ·rename_i h
   injection h with h1 h2
   subst h1
   simp
  ·rename_i h
   have:c≠46:=fun e=>h r (by rw[e])
   simp[this]
theorem Q05{s:List UInt8}(h:FH s=true):s.drop 1=OZ s:=by
 unfold FH at h
 split at h
 ·rfl
 ·cases h
theorem OX(c:UInt8)(r:List UInt8):FH (c::r)=decide (c=46):=by
 unfold FH
 split
 ·rename_i h
  injection h with h1 h2
  simp[h1]
 ·rename_i h
  have:c≠46:=fun e=>h r (by rw[e])
  simp[this]
theorem SH(c:UInt8)(r:List UInt8):OZ (c::r)=if c=46 then r else c::r:=by
 unfold OZ
 split
 ·rename_i h
  injection h with h1 h2
  subst h1 h2
  rfl
 ·rename_i h
  have:c≠46:=fun e=>h r (by rw[e])
  simp[this]
theorem Q25{s:List UInt8}(h:FH s=false):OZ s=s:=by
 match s with
 | []=>rfl
 | c::r=>
  rw[OX]at h
  rw[SH,if_neg (of_decide_eq_false h)]
theorem Q0S{s:List UInt8}(h:FH s=true):1<=s.length:=by
 match s,h with
 | [],h=>cases h
 | c::r,_=>simp
theorem Q5v(gls:List (Nat×List Value))(s:List UInt8)(hs:s.length<=1000000000000):EF Tryz.prog gls 160 [sP s,sP [46]] (.part (bP (FH s))):=by
 have he:decide ((1:Int)<=(s.length:Int))=decide (1<=s.length):=decide_eq_decide.2 (by omega)
 refine AU 18 Tryz.func160 rfl rfl rfl fun w D=>?_
 try refine A0 ?_
 refine A1 (AE rfl rfl rfl rfl rfl .nil) ?_
 try refine A0 ?_
 refine A1 (AA rfl rfl rfl rfl rfl (A5 rfl rfl rfl (GI rfl (kn rfl) str_9) (AA rfl rfl rfl rfl rfl (A5 rfl rfl rfl (GI rfl (kn rfl) str_9) (A5 rfl rfl rfl (AN rfl (kn rfl) (kn rfl) IJ) (AA rfl rfl rfl rfl rfl (Walk.gd _ rfl rfl rfl (fun h=>C8 rfl (kn rfl)) (Walk.gd _ rfl rfl rfl (fun h=>C8 rfl (kn rfl)) (Walk.gd _ rfl rfl rfl (fun h=>GI rfl (A9 rfl h) str_9) (Walk.gd _ rfl rfl rfl (fun h=>P5 (l:=s) (z:=1) rfl (A9 rfl h) (A9 rfl h) (by have:=of_decide_eq_true h;simp at this;omega) str_9) (Walk.gd _ rfl rfl rfl (fun h=>C8 rfl (kn rfl)) (Walk.gd _ rfl rfl rfl (fun h=>AN rfl (A9 rfl h) (A9 rfl h) (KJ)) (A5 rfl rfl rfl (EC rfl (kn rfl) (fun hb=>A9 rfl hb)) (AE rfl rfl rfl rfl rfl .nil)))))))))))))) ?_
 try refine A0 ?_
 exact AM rfl rfl (.tmp (kn rfl) (.nil)) (Imp.of_eq (by rw[Y9,<- he];simp;rfl)) rfl
theorem Q4b(gls:List (Nat×List Value))(s:List UInt8)(hs:s.length<=1000000000000):EF Tryz.prog gls 209 [sP s,sP [46]] (.tup [sP (OZ s),bP (FH s)]):=by
 refine AU 15 Tryz.func209 rfl rfl rfl fun w D=>?_
 try refine A0 ?_
 refine A1 (AE rfl rfl rfl rfl rfl (AE rfl rfl rfl rfl rfl .nil)) ?_
 try refine A0 ?_
 refine A1 (AA rfl rfl rfl rfl rfl (AA rfl rfl rfl rfl rfl (A5 rfl rfl rfl (AY rfl (by kernel_rfl) (Q5v gls s hs) ⟨(kn rfl),⟨(kn rfl),trivial⟩⟩) (A5 rfl rfl rfl (DL rfl (kn rfl)) .nil)))) ?_
 try refine A0 ?_
 refine AO rfl (fun h=>?_) (fun h=>?_)
 ·have h1:FH s=false:=by simpa using h
  try refine A0 ?_
  refine A1 (AA rfl rfl rfl rfl rfl (AE rfl rfl rfl rfl rfl (AE rfl rfl rfl rfl rfl .nil))) ?_
  try refine A0 ?_
  exact AM rfl rfl (.tmp (kn rfl) (.tmp (kn rfl) (.nil))) (Imp.of_eq (by rw[h1,Q25 h1];rfl)) rfl
 ·have h1:FH s=true:=by simpa using h
  have hl:=Q0S h1
  try refine A0 ?_
  refine A1 (AA rfl rfl rfl rfl rfl (AA rfl rfl rfl rfl rfl (A5 rfl rfl rfl (GI rfl (kn rfl) str_9) (A5 rfl rfl rfl (TS (z:=1) rfl (kn rfl) (kn rfl) (by omega) str_9) (AE rfl rfl rfl rfl rfl (AE rfl rfl rfl rfl rfl .nil)))))) ?_
  try refine A0 ?_
  exact AM rfl rfl (.tmp (kn rfl) (.tmp (kn rfl) (.nil))) (Imp.of_eq (by rw[h1,<- Q05 h1];rfl)) rfl
theorem Q5T(gls:List (Nat×List Value))(s:List UInt8)(hs:s.length<=1000000000000):EF Tryz.prog gls 175 [sP s,sP [46]] (.tup [sP (OZ s),bP (FH s)]):=by
 refine AU 11 Tryz.func175 rfl rfl rfl fun w D=>?_
 try refine A0 ?_
 refine A1 (AE rfl rfl rfl rfl rfl (AE rfl rfl rfl rfl rfl .nil)) ?_
 try refine A0 ?_
 refine A1 (AA rfl rfl rfl rfl rfl (AA rfl rfl rfl rfl rfl (A5 rfl rfl rfl (AY rfl (by kernel_rfl) (Q4b gls s hs) ⟨(kn rfl),⟨(kn rfl),trivial⟩⟩) (A5 rfl rfl rfl (BN rfl (kn rfl) rfl) (A5 rfl rfl rfl (BN rfl (kn rfl) rfl) (AE rfl rfl rfl rfl rfl (AE rfl rfl rfl rfl rfl .nil))))))) ?_
 try refine A0 ?_
 exact AM rfl rfl (.tmp (kn rfl) (.tmp (kn rfl) (.nil))) (Imp.refl _) rfl
def Q6F(r:Option Ty):IV:=.tup [tyP (r.getD ty0),bP r.isSome]
theorem O4(L:List Ty)(scope name:List UInt8):BJ L scope name=if FH name then D2 (OZ name) L else FM L name scope:=by
 match name with
 | []=>rfl
 | c::r=>
  rw[OX,SH]
  by_cases h:c=46
  ·subst h
   simp[BJ]
  ·simp[BJ,h]
theorem IX(L:List Ty)(name scope:List UInt8):FM L name scope=match D2 (scope++46::name) L with | some x=>some x | none=>if scope=[]then D2 name L else FM L name (LT scope):=by
 rw[FM]
 cases D2 (scope++46::name) L with
 | some x=>rfl
 | none=>
  by_cases e:scope=[]
  ·simp[e]
  ·simp[e]
theorem Q5Z(gls:List (Nat×List Value))(L:List Ty)(hL:GC L)(scope name:List UInt8)(h1:scope.length<=100000000)(h2:name.length<=100000000):EF Tryz.prog gls 138 [Q0n L,sP scope,sP name] (Q6F (BJ L scope name)):=by
 have h40:=hL.2
 rw[O4]
 refine AU 59 Tryz.func138 rfl rfl rfl fun w D=>?_
 try refine A0 ?_
 refine A8 ?_
 refine AS 6 [.is (.string ⟨#[]⟩),.is (.bool false),.is (.int .i64 0),.is (.int .i64 0),.is (.int .i64 0)] rfl rfl rfl rfl zr_192 (fun w D M V=>⟨rfl,fun j x v h1 h2=>AR _ h1 h2 rfl⟩) rfl rfl rfl rfl ?_
 refine AG ?_
 refine A6 ?_
 try refine A0 ?_
 refine A1 (AA rfl rfl rfl rfl rfl (A5 rfl rfl rfl (AY rfl (by kernel_rfl) (Q5T gls name (by omega)) ⟨(kn rfl),⟨(kn rfl),trivial⟩⟩) (AA rfl rfl rfl rfl rfl (A5 rfl rfl rfl (BN rfl (kn rfl) rfl) (A5 rfl rfl rfl (BN rfl (kn rfl) rfl) (AE rfl rfl rfl rfl rfl (AE rfl rfl rfl rfl rfl .nil))))))) ?_
 try refine A0 ?_
 refine A1 (AA rfl rfl rfl rfl rfl .nil) ?_
 try refine A0 ?_
 refine AO rfl (fun h=>?_) (fun h=>?_)
 ·rw[if_pos h]
  try refine A0 ?_
  refine A8 ?_
  refine AJ ?_
  refine AJ ?_
  refine AB (AY rfl (by kernel_rfl) (QB gls L hL (OZ name)) ⟨(kn rfl),⟨(kn rfl),trivial⟩⟩) ?_
  refine B3 ?_
  refine B3 ?_
  refine AI rfl rfl rfl (kn rfl) rfl (kn rfl) rfl rfl sz_192 ?_
  refine AG ?_
  refine A6 ?_
  try refine A0 ?_
  exact AM rfl rfl (.cell rfl rfl rfl agg_192 sz_192 rfl (.tmp (kn rfl) (.nil))) (Imp.of_eq rfl) rfl
 ·rw[if_neg (by rw[h];decide)]
  try refine A0 ?_
  refine A1 (AA rfl rfl rfl rfl rfl (A5 rfl rfl rfl (AN rfl (kn rfl) (kn rfl) (IP (by first | omega | (simp only[List.length_append,List.length_cons,List.length_nil];omega)))) (AE rfl rfl rfl rfl rfl .nil))) ?_
  try refine A0 ?_
  refine A1 (AE rfl rfl rfl rfl rfl .nil) ?_
  try refine A0 ?_
  refine CB (ι:={ i:List UInt8×Bool // i.1.length<=scope.length/\FM L name scope=if i.2 then FM L name i.1 else D2 name L })
   (fun i=>[(0,.part (Q0n L)),(1,.part (sP i.1.1)),(2,.part (sP name)),(6,.box 6 0),(10,.part (sP (46::name))),(11,.is (.bool i.1.2))])
   (fun _=>[(6,⟨192,[.is (.string ⟨#[]⟩),.is (.bool false),.is (.int .i64 0),.is (.int .i64 0),.is (.int .i64 0)]⟩)]) (fun _=>[]) (fun i=>bif i.1.2 then i.1.1.length+1 else 0)
   ⟨(scope,true),by simp,by simp⟩
   (fun K=>B8 ⟨s_t,s_t,s_t,s_t,s_t,s_t,trivial⟩ ⟨s_b,trivial⟩ trivial) ?_
  rintro⟨⟨s,inner⟩,hsl,hlk⟩
  dsimp only at hsl hlk ⊢
  try refine A0 ?_
  refine A1 (AA rfl rfl rfl rfl rfl .nil) ?_
  try refine A0 ?_
  refine AO rfl (fun hi=>?_) (fun hi=>?_)
  ·subst hi
   rw[if_pos rfl]at hlk
   have hle:=IX L name s
   have hlen:(s.length:Int)+((46::name).length:Int)=((s++46::name).length:Int):=by simp
   have hb1:(46::name).length=name.length+1:=List.length_cons
   have hm:=Q32 L (s++46::name).length
   have hnext:D2 (s++46::name) L=none->FM L name scope=if(!decide (s=[]))=true then FM L name (LT s)else D2 name L:=fun hn=>by
    rw[hlk,hle,hn]
    by_cases e:s=[]
    ·simp[e]
    ·simp[e]
   have hol:(LT s).length<=s.length:=by rw[XY];exact VO s
   have hmu:(bif !decide (s=[])then(LT s).length+1 else 0)<s.length+1:=by
    by_cases e:s=[]
    ·simp[e]
    ·have:=W5 e
     simp[e]
     omega
   try refine A0 ?_
   refine A1 (AA rfl rfl rfl rfl rfl (A5 rfl rfl rfl (AW rfl (EU (kn rfl) (Imp.ptr_ref _ _))) (A5 rfl rfl rfl (EQ rfl (kn rfl) off_195_3 (MQ h40 2)) (A5 rfl rfl rfl (AD rfl (kn rfl) one_191) (AA rfl rfl rfl rfl rfl (A5 rfl rfl rfl (GI rfl (kn rfl) str_9) (AA rfl rfl rfl rfl rfl (A5 rfl rfl rfl (GI rfl (kn rfl) str_9) (A5 rfl rfl rfl (AN rfl (kn rfl) (kn rfl) (BF (by first | omega | (dsimp only;omega)))) (A5 rfl rfl rfl (Q24 (kf:=kI) (((s++46::name).length:Nat):Int) hm rfl (kn rfl) (EU (kn rfl) (Imp.of_eq (congrArg (fun z=>IV.is (.int .i64 z)) hlen))) kfI Q7O zB) (A5 rfl rfl rfl (DL rfl (kn rfl)) .nil))))))))))) ?_
   try refine A0 ?_
   refine AO rfl (fun h3=>?_) (fun h3=>?_)
   ·have hn:=ZS (L:=L) (x:=s++46::name) (by simpa using h3)
    try refine A0 ?_
    refine A1 (AA rfl rfl rfl rfl rfl (A5 rfl rfl rfl (AY rfl (by kernel_rfl) (ZH gls s (by omega)) ⟨(kn rfl),trivial⟩) (AA rfl rfl rfl rfl rfl (A5 rfl rfl rfl (BN rfl (kn rfl) rfl) (A5 rfl rfl rfl (BN rfl (kn rfl) rfl) (AE rfl rfl rfl rfl rfl (AE rfl rfl rfl rfl rfl .nil))))))) ?_
    try refine A0 ?_
    refine BB ⟨(LT s,!decide (s=[])),by dsimp only;omega,hnext hn⟩ hmu (fun K=>B8 ⟨s_t,s_t,s_t,s_t,s_t,s_t,trivial⟩ ⟨s_b,trivial⟩ trivial)
   ·try refine A0 ?_
    refine A8 ?_
    refine AJ ?_
    refine AJ ?_
    refine AJ ?_
    refine AB (AN rfl (kn rfl) (kn rfl) (IP (by first | omega | (simp only[List.length_append,List.length_cons,List.length_nil];omega)))) ?_
    refine AB (AY rfl (by kernel_rfl) (QB gls L hL (s++46::name)) ⟨(kn rfl),⟨(kn rfl),trivial⟩⟩) ?_
    refine AJ ?_
    refine B3 ?_
    refine B3 ?_
    refine AS 12 [.is (.string ⟨#[]⟩),.is (.bool false),.is (.int .i64 0),.is (.int .i64 0),.is (.int .i64 0)] rfl rfl rfl rfl zr_192 (fun w D M V=>⟨rfl,fun j x v h1 h2=>AR _ h1 h2 rfl⟩) rfl rfl rfl rfl ?_
    refine AI rfl rfl rfl (kn rfl) rfl (kn rfl) rfl rfl sz_192 ?_
    refine AG ?_
    refine A6 ?_
    try refine A0 ?_
    refine A1 (AA rfl rfl rfl rfl rfl .nil) ?_
    try refine A0 ?_
    refine AO rfl (fun h4=>?_) (fun h4=>?_)
    ·obtain⟨t,ht⟩:=Option.isSome_iff_exists.1 h4
     have hr:FM L name scope=some t:=by rw[hlk,hle,ht]
     try refine A0 ?_
     refine A8 ?_
     refine AB (AT (ds:=[_,_,_,_,_]) 5 rfl (kn rfl) rfl rfl agg_192 sz_192 rfl) ?_
     refine AI rfl rfl rfl (kn rfl) rfl (kn rfl) rfl rfl sz_192 ?_
     refine AG ?_
     refine A6 ?_
     try refine A0 ?_
     exact AM rfl rfl (.cell rfl rfl rfl agg_192 sz_192 rfl (.tmp (kn rfl) (.nil))) (Imp.of_eq (by rw[hr];unfold Q6F;rw[ht];rfl)) rfl
    ·have hn:D2 (s++46::name) L=none:=by simpa using h4
     try refine A0 ?_
     refine A1 (AA rfl rfl rfl rfl rfl (A5 rfl rfl rfl (AY rfl (by kernel_rfl) (ZH gls s (by omega)) ⟨(kn rfl),trivial⟩) (AA rfl rfl rfl rfl rfl (A5 rfl rfl rfl (BN rfl (kn rfl) rfl) (A5 rfl rfl rfl (BN rfl (kn rfl) rfl) (AE rfl rfl rfl rfl rfl (AE rfl rfl rfl rfl rfl .nil))))))) ?_
     try refine A0 ?_
     refine BB ⟨(LT s,!decide (s=[])),by dsimp only;omega,hnext hn⟩ hmu (fun K=>B8 ⟨s_t,s_t,s_t,s_t,s_t,s_t,trivial⟩ ⟨s_b,trivial⟩ trivial)
  ·subst hi
   have hr:FM L name scope=D2 name L:=by rw[hlk];rfl
   try refine A0 ?_
   refine A8 ?_
   refine AJ ?_
   refine AJ ?_
   refine AB (AY rfl (by kernel_rfl) (QB gls L hL name) ⟨(kn rfl),⟨(kn rfl),trivial⟩⟩) ?_
   refine B3 ?_
   refine B3 ?_
   refine AI rfl rfl rfl (kn rfl) rfl (kn rfl) rfl rfl sz_192 ?_
   refine AG ?_
   refine A6 ?_
   try refine A0 ?_
   exact AM rfl rfl (.cell rfl rfl rfl agg_192 sz_192 rfl (.tmp (kn rfl) (.nil))) (Imp.of_eq (by rw[hr];rfl)) rfl
end Go.Proofs.YtgcphgdkddihcaaGreatDoor
