/- Part 10. Conditions: as each theorem says. -/
import Derived.Test.YtgcphgdkddihcaaGreatDoorSR09
import Derived.Laws.Entries
import Derived.Laws.Small
import Derived.Laws.Slices
import Derived.ChangeMaps5
set_option maxRecDepth 100000
namespace Go.Proofs.YtgcphgdkddihcaaGreatDoor
open Go.RowKit
section
section
variable{P:Program}{ops:Array Oper}{md:Region.Mode}{C:World->Prop}{R:World->World->Prop}
theorem PO(ops:Array Oper)(n:Nat)(tmps:Array Value):yielded (BZ ops n) tmps=yielded ops tmps:=by
 funext j
 unfold yielded
 have:((BZ ops n)[j]?).bind (·.dst)=(ops[j]?).bind (·.dst):=by
  by_cases h:j=n
  ·subst h
   cases ho:ops[j]? with
   | none=>
    have:(BZ ops j)[j]?=none:=by
     unfold BZ
     rw[Array.getElem?_modify,if_pos rfl,ho]
     rfl
    rw[this]
   | some o=>rw[H4 ho];rfl
  ·rw[DV h]
 rw[this]
def LF(ops:Array Oper)(n:Nat):Array Bool:=(List.range ops.size).map (fun i=>Nat.blt 0 i&&Nat.blt i n) |>.toArray
def Q4U(md:Region.Mode)(ops:Array Oper):List Nat->Array Bool->Bool
 | [],listed=>(Region.ready md ops listed).isEmpty
 | k::ks,listed=>decide (Region.ready md ops listed=[k])&&Q4U md ops ks (listed.setIfInBounds k true)
def WK(ops:Array Oper)(n:Nat):Bool:=
 Region.lexTailB .any (BZ ops n) n&&decide (0<n) &&
 (match ops[0]? with | some o0=>o0.after.all (fun e => !Region.binds .any e) | none=>false)&&Q4U .any ops (0::List.range' (n+1) (ops.size-n-1)) ((LF ops n).setIfInBounds n true)
theorem LJ{Q':Exit->Act->World->Prop}:∀ (l:List Oper) (ks:List Nat) (listed:Array Bool) (a:Act) (w:World),l.length=ks.length->(∀ (j k:Nat),ks[j]?=some k->l[j]?=ops[k]?) ->
  Q4U md ops ks listed=true->wpList P ops Q' l a w->wpAny P md ops Q' l.length listed a w
 | [],[],_,_,_,_,_,hB,h=>⟨by simpa[Q4U]using hB,h⟩
 | [],_::_,_,_,_,hl,_,_,_=>by cases hl
 | _::_,[],_,_,_,hl,_,_,_=>by cases hl
 | o::l,k::ks,listed,a,w,hlen,hl,hB,h=>by
  have h0:ops[k]?=some o:=by simpa using(hl 0 k rfl).symm
  simp only[Q4U,Bool.and_eq_true,decide_eq_true_eq]at hB
  refine⟨fun h1=>(by rw[hB.1]at h1;cases h1),fun i hi=>?_⟩
  rw[hB.1]at hi
  have hik:i=k:=by simpa using hi
  subst hik
  have hw:wpOp P ops Q' i (wpList P ops Q' l) a w:=by unfold wpOp;simp only[h0];exact h
  exact wpOp_mono (fun a' w' h'=>LJ l ks _ a' w' (by simpa using hlen) (fun j k hj=>by have:=hl (j+1) k (by simpa using hj);simpa using this) hB.2 h') hw
theorem VY{n:Nat}:∀ (g k:Nat) (listed:Array Bool),listed.getD 0 false=true->Region.seqB .any (BZ ops n) g k listed=Region.seqB .any ops g k listed:=by
 have hr:∀ listed:Array Bool,listed.getD 0 false=true->Region.ready .any (BZ ops n) listed=Region.ready .any ops listed:=fun listed hz=>by
  unfold Region.ready
  rw[DD]
  refine List.filter_congr fun i hi=>?_
  by_cases h:i=n
  ·subst h
   have hlt:i<ops.size:=List.mem_range.1 hi
   rw[H4 (Array.getElem?_eq_getElem hlt),Array.getElem?_eq_getElem hlt]
   simp only[Option.map_some,Option.getD_some,Array.all_push,hz,Bool.or_true,Bool.and_true]
  ·rw[DV h]
 intro g
 induction g with
 | zero=>intro k listed hz;simp only[Region.seqB,hr listed hz]
 | succ g ih=>intro k listed hz;simp only[Region.seqB,hr listed hz,ih _ _ (getD_set_true hz)]
theorem JL{ks:Nat->Kind}{n g:Nat}{L:Array Bool->List C9->Act->Prop}{Q':Exit->Act->World->Prop}(hC:CV R C)(hks:∀ i v,CV R ((ks i).pred v))(hn0:0<n)(hn:n<ops.size){o0:Oper}(ho0:ops[0]?=some o0)(hd0:∀ e∈o0.after,Region.binds md e≠true)
  (hs:Region.sinkB md (BZ ops n) n=true) (hc:Region.chainB md (BZ ops n) n=true)
  (hA:∀ listed G a w,C w->(∀ f∈G,f.2 w)->L listed G a->wpAny P md ops Q' g listed a w)
  (hB:∀ G a w,C w->(∀ f∈G,f.2 w)->(∀ v,(ks 0).ok v->L ((LF ops n).setIfInBounds 0 true) ((o0.dst,(ks 0).pred v)::G) (a.put o0.dst v))->wpOp P ops Q' n (wpAny P md ops Q' g ((LF ops n).setIfInBounds n true)) a w):
  ∀ (fuel:Nat) (listed:Array Bool) (G:List C9) (a:Act) (w:World),HeadInv md ops n listed->C w->(∀ f∈G,f.2 w)->(∀ f∈G,CV R f.2) ->
  FF P md (BZ ops n) R C ks n L fuel listed G a->wpAny P md ops Q' (fuel+g) listed a w
 | 0,_,_,_,_,_,hw,hG,_,h=>by rw[Nat.zero_add];exact hA _ _ _ _ hw hG h
 | fuel+1,listed,G,a,w,inv,hw,hG,hst,h=>by
  rw[show fuel+1+g=(fuel+g)+1 by omega]
  have hsub:∀ i,i≠n->(i∈Region.ready md (BZ ops n) listed↔i∈Region.ready md ops listed):=fun i hi=>by
   rw[mem_ready,mem_ready,DV hi]
  refine⟨fun h0=>?_,fun i hi=>?_⟩
  ·obtain⟨i,hi⟩:=List.exists_mem_of_ne_nil _ h.1
   have hin:=(h.2 i hi).1
   rw[hsub i (by omega),h0]at hi
   cases hi
  ·by_cases hin:i=n
   ·subst hin
    have h00:listed.getD 0 true=false:=by
     cases e:listed.getD 0 true with
     | false=>rfl
     | true=>
      exfalso
      have he:listed.getD 0 false=true:=by
       have:0<listed.size:=by rw[inv.size];omega
       simp[this]at e ⊢
       exact e
      obtain⟨h1,o,ho,hall⟩:=mem_ready.1 hi
      have:i∈Region.ready md (BZ ops i) listed:=mem_ready.2 ⟨h1,_,H4 ho,fun e' he' hb=>by
       rcases Array.mem_push.1 he' with he' | rfl
       ·exact hall e' he' hb
       ·exact he⟩
      exact absurd (h.2 i this).1 (Nat.lt_irrefl i)
    have hr0:0∈Region.ready md ops listed:=mem_ready.2 ⟨h00,o0,ho0,fun e he hb=>absurd hb (hd0 e he)⟩
    have inv':FloatInv md ops i (listed.setIfInBounds 0 true):=⟨inv.set hr0 hn0,by
     have:0<listed.size:=by rw[inv.size];omega
     simp[this]⟩
    have hall:∀ j,j<i->(listed.setIfInBounds 0 true).getD j true=true:=fun j hj=>by
     cases e:(listed.setIfInBounds 0 true).getD j true with
     | true=>rfl
     | false=>exact absurd (ready_mono hi (by omega)) (inv'.wait hs hc hn j hj e i (Nat.le_refl i))
    have hL:listed=LF ops i:=by
     refine Array.ext (by simp[LF,inv.size]) fun j h1 h2=>?_
     have hjs:j<ops.size:=by rw[<- inv.size];exact h1
     simp only[LF,List.getElem_toArray,List.getElem_map,List.getElem_range]
     by_cases hj0:j=0
     ·subst hj0
      have:listed[0]=false:=by simpa[h1]using h00
      rw[this]
      rfl
     ·by_cases hji:j<i
      ·have:=hall j hji
       rw[getD_set_ne true (Ne.symm hj0)]at this
       have:listed[j]=true:=by simpa[h1]using this
       rw[this]
       have e1:Nat.blt 0 j=true:=by simp;omega
       have e2:Nat.blt j i=true:=by simpa using hji
       rw[e1,e2]
       rfl
      ·have:=inv.tail j (by omega) hjs
       have:listed[j]=false:=by simpa[h1]using this
       rw[this]
       have e2:Nat.blt j i=false:=by
        cases e:Nat.blt j i
        ·rfl
        ·exact absurd (by simpa using e) hji
       rw[e2,Bool.and_false]
    have hr0':=(hsub 0 (by omega)).2 hr0
    obtain⟨_,h1⟩:=h.2 0 hr0'
    obtain⟨_,h2⟩:=h1 o0 (by rw[DV (by omega)];exact ho0)
    have hf:fuel=0:=by
     cases fuel with
     | zero=>rfl
     | succ fuel=>
      exfalso
      obtain⟨h3,h4⟩:=h2 _ (ks 0).ok_pick
      obtain⟨j,hj⟩:=List.exists_mem_of_ne_nil _ h3
      have hjn:=(h4 j hj).1
      have:=(mem_ready.1 hj).1
      rw[hall j hjn]at this
      cases this
    subst hf
    have:=hB G a w hw hG fun v hv=>(by have:=h2 v hv;rw[hL]at this;exact this)
    rw[hL,Nat.zero_add]
    exact this
   ·have hi':=(hsub i hin).2 hi
    unfold wpOp
    split
    ·rename_i ho
     obtain⟨_,o,ho',_⟩:=mem_ready.1 hi
     rw[ho]at ho';cases ho'
    ·rename_i o ho
     obtain⟨h1,h2⟩:=(h.2 i hi').2 o (by rw[DV hin];exact ho)
     have hil:=(h.2 i hi').1
     unfold AskT at h1
     rw[PO]at h1
     split
     ·rename_i hwt
      rw[if_pos hwt]at h1
      refine .inl (IK (h1 w hw fun f hf _ _ _=>hG f hf) fun v w' hR hok hp=>?_)
      refine JL hC hks hn0 hn ho0 hd0 hs hc hA hB fuel _ _ _ w' (inv.set hi hil) (hC _ _ hR hw) (fun f hf=>?_) (fun f hf=>?_) (h2 v hok)
      ·rcases List.mem_cons.1 hf with rfl | hf
       ·exact hp
       ·exact hst f hf _ _ hR (hG f hf)
      ·rcases List.mem_cons.1 hf with rfl | hf
       ·exact hks i v
       ·exact hst f hf
     ·rename_i hwt
      rw[if_neg hwt]at h1
      refine JL hC hks hn0 hn ho0 hd0 hs hc hA hB fuel _ _ _ w (inv.set hi hil) hw (fun f hf=>?_) (fun f hf=>?_) (h2 undef h1.1)
      ·rcases List.mem_cons.1 hf with rfl | hf
       ·exact h1.2 w
       ·exact hG f hf
      ·rcases List.mem_cons.1 hf with rfl | hf
       ·exact hks i undef
       ·exact hst f hf
theorem O6{id:Nat}{Q:Exit->Act->World->Prop}{a:Act}{w:World}{l:List Oper}(n:Nat)(C:World->Prop)(R:World->World->Prop)(k0:Kind)(kl:List Kind)(Z ZX:List C9->Act->Prop){o0 on:Oper}(hm:P.follows .mixedOrders=true)
  (hB:WK l.toArray n=true) (ho:l.toArray[0]?=some o0) (hon:l.toArray[n]?=some on) (hC:CV R C) (hk0:∀ v,CV R (k0.pred v)) (hks:AllStay R kl) (h0:C w.drew) (hZ:∀ G G' a,(∀ f∈G,f∈G')->Z G a->Z G' a)
  (hA:∀ G a,Z G a -> ∀ w',C w'->(∀ f∈G,f.2 w')->wpList P l.toArray Q (l.drop n) a w')
  (hX:∀ G a v,k0.ok v->Z ((o0.dst,k0.pred v)::G) (a.put o0.dst v)->ZX G a)
  (hB2:∀ G a,ZX G a -> ∀ w',C w'->(∀ f∈G,f.2 w')->wpList P l.toArray Q (on::o0::l.drop (n+1)) a w')
  (h:wpT P (BZ l.toArray n) R C Z (l.take n) (k0::kl) [] a):(Code.region id l.toArray true).wp P Q a w:=by
 simp only[WK,Bool.and_eq_true,decide_eq_true_eq,ho]at hB
 obtain⟨⟨⟨hT,hn0⟩,hd0⟩,hseq⟩:=hB
 simp only[Region.lexTailB,Bool.and_eq_true,decide_eq_true_eq,DD]at hT
 obtain⟨⟨⟨⟨hsel,hn⟩,hs⟩,hc⟩,hlex⟩:=hT
 have hn':n<l.length:=by simpa using hn
 have htl:(l.take n).length=n:=by simp;omega
 have hdl:(l.drop n).length=l.toArray.size-n:=by simp
 have inv0:HeadInv .any l.toArray n (Array.replicate l.toArray.size false):=
  ⟨by simp,fun j oj _ hl=>(by rw[getD_replicate_false]at hl;cases hl),fun t _ ht=>getD_in (by simpa using ht) (getD_replicate_false _ _)⟩
 have inv1:HeadInv .any (BZ l.toArray n) n (Array.replicate l.toArray.size false):=
  ⟨by simp[DD],fun j oj _ hl=>(by rw[getD_replicate_false]at hl;cases hl),fun t _ ht=>getD_in (by simpa[DD]using ht) (getD_replicate_false _ _)⟩
 have hks':∀ i v,CV R (((fun i=>(k0::kl).getD i (Kind.is undef)) i).pred v):=fun i v=>by
  cases i with
  | zero=>exact hk0 v
  | succ i=>
   simp only[List.getD,List.getElem?_cons_succ]
   cases hk:kl[i]? with
   | none=>exact fun _ _ _ _=>trivial
   | some k=>exact hks.mem k (List.mem_of_getElem? hk) v
 have H:=K5 (md:=.any) (ops:=BZ l.toArray n) (ks:=fun i=>(k0::kl).getD i (Kind.is undef)) (g:=l.toArray.size-n) (Q:=Z) hZ hsel hs hc (by rw[DD];exact hn) (l.take n) (k0::kl) 0 _ [] a (fun j hj=>by
  have hj':j<n:=by rw[htl]at hj;exact hj
  rw[Nat.zero_add,DV (by omega)]
  simp[hj']) (fun j k hj=>by simp[List.getD,hj]) (by simpa using htl) inv1 (by rw[htl];exact hlex) h
 refine wp_region_any hm ?_
 have hsub:∀ listed j,j≠n->(j∈Region.ready .any (BZ l.toArray n) listed↔j∈Region.ready .any l.toArray listed):=fun listed j hj=>by
  rw[mem_ready,mem_ready,DV hj]
 have:=JL (md:=.any) (ops:=l.toArray) (L:=fun listed' G' a'=>Region.seqB .any (BZ l.toArray n) (l.toArray.size-n) n listed'=true/\Z G' a') (Q':=Q) (g:=l.toArray.size-n) (C:=C) (R:=R) hC hks' hn0 hn ho (fun e he hb=>by
   have:=Array.all_eq_true_iff_forall_mem.1 hd0 e he
   rw[hb]at this
   cases this) hs hc (fun listed G a' w' hw hG hL=>?_) (fun G a' w' hw hG hv=>?_) _ _ [] a w.drew inv0 h0 (fun f hf=>by cases hf) (fun f hf=>by cases hf) H
 ·rw[htl,show n+(l.toArray.size-n)=l.toArray.size by omega]at this
  exact this
 ·obtain⟨h1,h2⟩:=hL
  have hz:listed.getD 0 false=true:=by
   obtain⟨m,hm'⟩:∃ m,l.toArray.size-n=m+1:=⟨l.toArray.size-n-1,by omega⟩
   rw[hm']at h1
   simp only[Region.seqB,Bool.and_eq_true,decide_eq_true_eq]at h1
   have hr:n∈Region.ready .any (BZ l.toArray n) listed:=by rw[h1.1];exact List.mem_cons_self
   obtain⟨_,o,ho',hall⟩:=mem_ready.1 hr
   rw[H4 hon]at ho'
   obtain rfl:=Option.some.inj ho'
   exact hall { on:=0,ground:=.phase } (Array.mem_push.2 (.inr rfl)) rfl
  rw[VY _ _ _ hz]at h1
  have:=wpAny_of_seq (md:=.any) (Q':=Q) (l.drop n) n listed a' w' (fun j=>by simp[List.getElem?_drop]) (by rw[hdl];exact h1) (hA G a' h2 w' hw hG)
  rwa [hdl]at this
 ·obtain⟨_,h1⟩:=hv _ k0.ok_pick
  have h2:=hB2 G a' (hX G a' _ k0.ok_pick h1) w' hw hG
  have hop:wpOp P l.toArray Q n (wpList P l.toArray Q (o0::l.drop (n+1))) a' w':=by unfold wpOp;simp only[hon];exact h2
  refine wpOp_mono (fun a2 w2 h3=>?_) hop
  have:=LJ (md:=.any) (ops:=l.toArray) (o0::l.drop (n+1)) (0::List.range' (n+1) (l.toArray.size-n-1)) _ a2 w2 (by simp;omega) (fun j k hj=>?_) hseq h3
  ·have hlen:(o0::l.drop (n+1)).length=l.toArray.size-n:=by simp;omega
   rwa [hlen]at this
  ·cases j with
   | zero=>
    simp only[List.getElem?_cons_zero,Option.some.injEq]at hj
    subst hj
    simpa using ho.symm
   | succ j=>
    simp only[List.getElem?_cons_succ]at hj ⊢
    obtain⟨hlt,hk⟩:=List.getElem?_eq_some_iff.1 hj
    simp only[List.getElem_range',Nat.one_mul]at hk
    rw[List.getElem?_drop,<- hk,List.getElem?_toArray]
end
end
section
def off(d:Nat):TL->TL
 | []=>[]
 | (j,x)::l=>bif Nat.beq j d then off d l else(j,x)::off d l
theorem Q0t{d t:Nat}{x:IV}:∀ {T:TL},lk t (off d T)=some x->t≠d/\lk t T=some x
 | [],h=>by cases h
 | (j,y)::l,h=>by
  unfold off at h
  cases e:Nat.beq j d with
  | true=>
   rw[e]at h
   obtain⟨h1,h2⟩:=Q0t (T:=l) h
   have:j=d:=Nat.eq_of_beq_eq_true e
   exact⟨h1,by rw[BG _ _ (by omega)];exact h2⟩
  | false=>
   rw[e]at h
   have hjd:j≠d:=fun h=>by subst h;simp at e
   rcases AK h with⟨rfl,rfl⟩ | ⟨hne,h⟩
   ·exact⟨hjd,B5 _ _ _⟩
   ·obtain⟨h1,h2⟩:=Q0t (T:=l) h
    exact⟨h1,by rw[BG _ _ hne];exact h2⟩
section
variable{P:Program}{cx:Cx}{T T' T2:TL}{B:BL}{R:RL}
theorem IR(n:Nat){id:Nat}{o0 on:Oper}{l:List Oper}{d:Nat}{y0:IV}{Q:Exit->Act->World->Prop}{ys:List IV}(hm:P.follows .mixedOrders=true)(hB:WK (o0::l).toArray n=true)(hd:o0.dst=some d)(hon:(o0::l).toArray[n]?=some on)
  (hW:Walk P cx B R (BZ (o0::l).toArray n) ((o0::l).take n) T (y0::ys) T') (hT:off d T'=T2) (hA:E cx T' B R (wpList P (o0::l).toArray Q ((o0::l).drop n))) (hB2:E cx T2 B R (wpList P (o0::l).toArray Q (on::o0::(o0::l).drop (n+1)))):
  E cx T B R ((Code.region id (o0::l).toArray true).wp P Q):=fun M V a w hr=>by
 have h0:Ct cx T B R M V a w.drew:=Ct.stay w _ (Below.refl _ _).drew ⟨hr.heap,hr.tmp⟩
 have hks:=F3 (cx:=cx) (B:=B) (R:=R) (M:=M) (V:=V) (y0::ys)
 refine O6 n (Ct cx T B R M V a) Rb (E6 cx B R M V y0) (ys.map (E6 cx B R M V)) (fun G a'=>a'.tmps.size=cx.n/\a'.defers=[]/\Gt cx B R M V (Ct cx T B R M V a) T' G a') (fun G a'=>a'.tmps.size=cx.n/\a'.defers=[]/\Gt cx B R M V (Ct cx T B R M V a) T2 G a') (o0:=o0) (on:=on) hm hB rfl hon Ct.stay hks.1 hks.2 h0 ?_ ?_ ?_ ?_ ?_
 ·rintro G G' a' hG ⟨h1,h2,h3⟩
  refine⟨h1,h2,fun t x hx=>?_⟩
  rcases h3 t x hx with h | ⟨h4,F,h5,h6⟩
  ·exact .inl h
  ·exact .inr ⟨h4,F,hG _ h5,h6⟩
 ·rintro G a' ⟨hn,hdf,hG⟩ w' hc hF
  exact hA M V a' w' (hG.rel (fun w h=>h.1) hn hdf hc hF)
 ·rintro G a' v _ ⟨hn,hdf,hG⟩
  refine⟨by simpa[Act.put,hd]using hn,by rw[hd]at hdf;exact hdf,fun t x hx=>?_⟩
  rw[<- hT]at hx
  obtain⟨hne,hx⟩:=Q0t hx
  have hget:(a'.put o0.dst v).tmps.getD t undef=a'.tmps.getD t undef:=by
   rw[hd]
   simp only[Act.put,Array.getD_eq_getD_getElem?,Array.getElem?_setIfInBounds]
   rw[if_neg (Ne.symm hne)]
  rcases hG t x hx with h | ⟨h4,F,h5,h6⟩
  ·rw[hget]at h
   exact .inl h
  ·rw[hget]at h6
   refine .inr ⟨h4,F,?_,h6⟩
   rcases List.mem_cons.1 h5 with e | h5
   ·injection e with e _
    rw[hd]at e
    injection e with e
    exact absurd e hne
   ·exact h5
 ·rintro G a' ⟨hn,hdf,hG⟩ w' hc hF
  exact hB2 M V a' w' (hG.rel (fun w h=>h.1) hn hdf hc hF)
 ·exact hW.wpT (fun w h=>h.1) ⟨_,h0⟩ hr.size hr.defers (fun t x hx=>.inl fun w h=>h.2 t x hx) fun G' a' hn hdf hG=>⟨hn,hdf,hG⟩
end
end
section
section
variable{P:Program}{cx:Cx}{T:TL}{B:BL}{R:RL}{o:Oper}
def Q3y(P:Program)(t:TypeId)(f:Nat):Option (TypeId×Nat):=
 match P.underlying t with
 | some (.struct fs)=>(fs[f]?).map fun g=>(g.type,g.offset)
 | _=>none
theorem Q5A{x:Operand}{t fty:TypeId}{f off:Nat}{cs:List Value}{v:Value}(ho:o.op=.field t x f)(hx:Kn T x (.part (.many (cs.map .cell))))(hf:Q3y P t f=some (fty,off))(h1:P.underlying fty=some .string \/ ∃ k,P.underlying fty=some (.int k))(hv:cs[off]?=some v):LStep P cx B R o T (.is v):=LStep.same fun M V w a _ hk=>by
 have h2:=JG (hk x _ (by simp[ho,Op.operands]) hx)
 unfold Q3y at hf
 cases hu:P.underlying t with
 | none=>rw[hu]at hf;cases hf
 | some d=>
  cases d<;>rw[hu]at hf<;>try (cases hf;done)
  rename_i fs
  obtain⟨g,hg,hg2⟩:=Option.map_eq_some_iff.1 hf
  injection hg2 with e1 e2
  subst e1 e2
  have h3:=WW (P:=P) (xs:=cs.toArray) w h1 (by simpa using hv)
  refine⟨v,?_,.cell v⟩
  unfold execOp
  simp only[ho,h2]
  simp[Instr.field,run_underlying hu,hg,asAgg,h3]
end
end
section
section
variable{P:Program}{cx:Cx}{T:TL}{B:BL}{R:RL}
theorem Q5n{o:Oper}{a:Act}{w:World}{K:Act->World->Prop}{Q:Exit->Act->World->Prop}(h:o.wp P a w K (Exit.then K Q)):o.wp P a w K Q:=by
 unfold Oper.wp at *
 generalize(execOp a.eval o).run P w=r at *
 cases r with
 | ok n w'=>
  cases n<;>simp only[Oper.upon]at h ⊢ <;> first | exact h | exact Calls.mono h (fun e w'' he=>by cases e<;>exact he) | exact Rows.mono h (fun _ _ he=>he)
 | halt x w'=>cases x<;>simp only[Oper.upon]at h ⊢ <;> exact h
def Q4c(ops:Array Oper):Bool:=
 decide (ops.size=4)&&decide (Region.ready .any ops #[false,false,false,false]=[0])&&decide (Region.ready .any ops #[true,false,false,false]=[1,2])&&decide (Region.ready .any ops #[true,true,false,false]=[2])&&decide (Region.ready .any ops #[true,false,true,false]=[1])&&decide (Region.ready .any ops #[true,true,true,false]=[3])&&decide (Region.ready .any ops #[true,true,true,true]=[])
theorem RP{id:Nat}{Q:Exit->Act->World->Prop}{a:Act}{w:World}{o0 o1 o2 o3:Oper}(hm:P.follows .mixedOrders=true)(hB:Q4c #[o0,o1,o2,o3]=true)
  (h:wpOp P #[o0,o1,o2,o3] Q 0 (fun a w=>wpOp P #[o0,o1,o2,o3] Q 1 (wpOp P #[o0,o1,o2,o3] Q 2 (wpOp P #[o0,o1,o2,o3] Q 3 (Q .normal))) a w/\wpOp P #[o0,o1,o2,o3] Q 2 (wpOp P #[o0,o1,o2,o3] Q 1 (wpOp P #[o0,o1,o2,o3] Q 3 (Q .normal))) a w) a w.drew):(Code.region id #[o0,o1,o2,o3] true).wp P Q a w:=by
 simp only[Q4c,Bool.and_eq_true,decide_eq_true_eq]at hB
 obtain⟨⟨⟨⟨⟨⟨_,r0⟩,r1⟩,r2⟩,r3⟩,r4⟩,r5⟩:=hB
 refine wp_region_any hm ?_
 have hend:∀ a w,Q .normal a w->wpAny P .any #[o0,o1,o2,o3] Q 0 #[true,true,true,true] a w:=fun a w h=>⟨r5,h⟩
 have h3:∀ a w,wpOp P #[o0,o1,o2,o3] Q 3 (Q .normal) a w->wpAny P .any #[o0,o1,o2,o3] Q 1 #[true,true,true,false] a w:=fun a w h=>⟨fun e=>(by rw[r4]at e;cases e),fun i hi=>by
  rw[r4]at hi
  obtain rfl:i=3:=by simpa using hi
  exact wpOp_mono hend h⟩
 have h2:∀ a w,wpOp P #[o0,o1,o2,o3] Q 2 (wpOp P #[o0,o1,o2,o3] Q 3 (Q .normal)) a w->wpAny P .any #[o0,o1,o2,o3] Q 2 #[true,true,false,false] a w:=fun a w h=>⟨fun e=>(by rw[r2]at e;cases e),fun i hi=>by
  rw[r2]at hi
  obtain rfl:i=2:=by simpa using hi
  exact wpOp_mono h3 h⟩
 have h1:∀ a w,wpOp P #[o0,o1,o2,o3] Q 1 (wpOp P #[o0,o1,o2,o3] Q 3 (Q .normal)) a w->wpAny P .any #[o0,o1,o2,o3] Q 2 #[true,false,true,false] a w:=fun a w h=>⟨fun e=>(by rw[r3]at e;cases e),fun i hi=>by
  rw[r3]at hi
  obtain rfl:i=1:=by simpa using hi
  exact wpOp_mono h3 h⟩
 refine⟨fun e=>(by have:Region.ready .any #[o0,o1,o2,o3] #[false,false,false,false]=[]:=e;rw[r0]at this;cases this),fun i hi=>?_⟩
 have hi':i∈Region.ready .any #[o0,o1,o2,o3] #[false,false,false,false]:=hi
 rw[r0]at hi'
 obtain rfl:i=0:=by simpa using hi'
 refine wpOp_mono (fun a w hk=>?_) h
 show wpAny P .any #[o0,o1,o2,o3] Q 3 #[true,false,false,false] a w
 refine⟨fun e=>(by rw[r1]at e;cases e),fun i hi=>?_⟩
 rw[r1]at hi
 rcases List.mem_cons.1 hi with rfl | hi
 ·exact wpOp_mono h2 hk.1
 ·obtain rfl:i=2:=by simpa using hi
  exact wpOp_mono h1 hk.2
theorem JQ{ops:Array Oper}{Q:Exit->Act->World->Prop}{K:Act->World->Prop}{o:Oper}{i:Nat}{a:Act}{w:World}(hi:ops[i]?=some o)(hl:LetsOut (Exit.then K Q)->LetsOut Q)(h:wpList P ops (Exit.then K Q) [o] a w):wpOp P ops Q i K a w:=by
 unfold wpOp
 simp only[hi]
 simp only[wpList]at h
 split
 ·rename_i hw
  rw[if_pos hw]at h
  exact h.imp (fun h=>Q5n h) (fun h=>⟨h.1,hl h.2⟩)
 ·rename_i hw
  rw[if_neg hw]at h
  exact h
theorem Q43{id:Nat}{Q:Exit->Act->World->Prop}{o0 o1 o2 o3:Oper}{d0 d1 ty:Nat}(b:Nat)(hm:P.follows .mixedOrders=true)(hB:Q4c #[o0,o1,o2,o3]=true)(hl:∀ K,LetsOut (Exit.then K Q)->LetsOut Q)
  (g0:o0.guard=none) (e0:o0.dst=some d0) (n0:Nat.blt d0 cx.n=true) (p0:o0.op=.alloc ty) (hz:C5 P ty=some [.bool false])
  (g1:o1.guard=none) (e1:o1.dst=none) (p1:o1.op=.store ty (.tmp d0) (.const (.bool true))) (g2:o2.guard=none) (e2:o2.dst=none) (p2:o2.op=.store ty (.tmp d0) (.const (.bool false)))
  (g3:o3.guard=none) (e3:o3.dst=some d1) (n1:Nat.blt d1 cx.n=true) (p3:o3.op=.load ty (.tmp d0)) (hs:sizeT P ty=some 1) (h1:oneT P ty=true)
  (hpn:cx.pn.all (fun c => !Nat.beq c b)=true) (hT:OO b T=true) (hBb:MM b B=true)
  (h:∀ x y:Bool,E cx ((d1,.is (.bool y))::(d0,.box b 0)::T) ((b,⟨ty,[.is (.bool y)]⟩)::(b,⟨ty,[.is (.bool x)]⟩)::(b,⟨ty,[.is (.bool false)]⟩)::B) R (Q .normal)):E cx T B R ((Code.region id #[o0,o1,o2,o3] true).wp P Q):=fun M V a w hr=>by
 refine RP hm hB ?_
 have hr1:Rel cx T B R M V a w.drew:=⟨hr.size,hr.defers,hr.heap.step (Below.refl _ _).drew,fun t x hx=>(hr.tmp t x hx).stay (hr.heap.keeps (Below.refl _ _).drew) fun _ hg=>hg.mono (Nat.le_refl _)⟩
 have kd:Kn ((d0,.box b 0)::T) (.tmp d0) (.box b 0):=kn (show lk d0 ((d0,IV.box b 0)::T)=_ from B5 _ _ _)
 have key:∀ (x y:Bool) (i j:Nat) (oi oj:Oper),#[o0,o1,o2,o3][i]?=some oi -> #[o0,o1,o2,o3][j]?=some oj->oi.guard=none->oi.dst=none->oi.op=.store ty (.tmp d0) (.const (.bool x))->oj.guard=none->oj.dst=none->oj.op=.store ty (.tmp d0) (.const (.bool y)) ->
   E cx ((d0,.box b 0)::T) ((b,⟨ty,[.is (.bool false)]⟩)::B) R (wpOp P #[o0,o1,o2,o3] Q i (wpOp P #[o0,o1,o2,o3] Q j (wpOp P #[o0,o1,o2,o3] Q 3 (Q .normal)))):=fun x y i j oi oj hi hj gi ei pi gj ej pj=>by
  have s3:E cx ((d0,.box b 0)::T) ((b,⟨ty,[.is (.bool y)]⟩)::(b,⟨ty,[.is (.bool x)]⟩)::(b,⟨ty,[.is (.bool false)]⟩)::B) R (wpOp P #[o0,o1,o2,o3] Q 3 (Q .normal)):=fun M V a w hr=>by
   refine JQ (o:=o3) rfl (hl _) ?_
   exact ES (ops := #[o0,o1,o2,o3]) (Q:=Exit.then (Q .normal) Q) g3 e3 n1 (A4 (y:=.is (.bool y)) p3 kd (B5 _ _ _) rfl h1) (h x y) M V a w hr
  have s2:E cx ((d0,.box b 0)::T) ((b,⟨ty,[.is (.bool x)]⟩)::(b,⟨ty,[.is (.bool false)]⟩)::B) R (wpOp P #[o0,o1,o2,o3] Q j (wpOp P #[o0,o1,o2,o3] Q 3 (Q .normal))):=fun M V a w hr=>by
   refine JQ (o:=oj) hj (hl _) ?_
   exact C3 (ops := #[o0,o1,o2,o3]) (Q:=Exit.then (wpOp P #[o0,o1,o2,o3] Q 3 (Q .normal)) Q) gj ej pj kd (B5 _ _ _) (kn rfl) rfl rfl hs rfl s3 M V a w hr
  exact fun M V a w hr=>by
   refine JQ (o:=oi) hi (hl _) ?_
   exact C3 (ops := #[o0,o1,o2,o3]) (Q:=Exit.then (wpOp P #[o0,o1,o2,o3] Q j (wpOp P #[o0,o1,o2,o3] Q 3 (Q .normal))) Q) gi ei pi kd (B5 _ _ _) (kn rfl) rfl rfl hs rfl s2 M V a w hr
 refine JQ (o:=o0) rfl (hl _) ?_
 refine AS (ops := #[o0,o1,o2,o3]) (Q:=Exit.then _ Q) b [.is (.bool false)] g0 e0 n0 p0 hz (fun w D M V=>⟨rfl,fun j x v h1 h2=>AR _ h1 h2 rfl⟩) hpn hT hBb rfl ?_ M V a w.drew hr1
 exact fun M V a w hr=>⟨key true false 1 2 o1 o2 rfl rfl g1 e1 p1 g2 e2 p2 M V a w hr,key false true 2 1 o2 o1 rfl rfl g2 e2 p2 g1 e1 p1 M V a w hr⟩
end
end
section
section
variable{P:Program}{cx:Cx}{T:TL}{B:BL}{R:RL}
def LentBr(ρ σ:Nat->Nat)(B:BL):BL->Prop
 | []=>True
 | (b,x)::l=>lk (ρ b) B=some ⟨x.ty,x.cs.map (·.ren ρ σ)⟩/\LentBr ρ σ B l
def LentRr(σ:Nat->Nat)(R:RL):RL->Prop
 | []=>True
 | (r,x)::l=>lk (σ r) R=some x/\LentRr σ R l
theorem LentBr.get{ρ σ:Nat->Nat}:∀ {B0:BL} (_:LentBr ρ σ B B0) {b:Nat} {x:Bx},lk b B0=some x->lk (ρ b) B=some ⟨x.ty,x.cs.map (·.ren ρ σ)⟩
 | (c,y)::l,h,b,x,hx=>by
  rcases AK hx with⟨rfl,rfl⟩ | ⟨_,hx⟩
  ·exact h.1
  ·exact LentBr.get h.2 hx
 | [],_,_,_,hx=>by cases hx
theorem LentRr.get{σ:Nat->Nat}:∀ {R0:RL} (_:LentRr σ R R0) {b:Nat} {x:Rw},lk b R0=some x->lk (σ b) R=some x
 | (c,y)::l,h,b,x,hx=>by
  rcases AK hx with⟨rfl,rfl⟩ | ⟨_,hx⟩
  ·exact h.1
  ·exact LentRr.get h.2 hx
 | [],_,_,_,hx=>by cases hx
theorem Q3F{gls:List (Nat×List Value)}{f:FuncId}{xs ys:List IV}{B0:BL}{R0:RL}{Y Y':IV->BL->RL->Prop}(ρ σ:Nat->Nat)(hf:EG P gls f ys B0 R0 Y)(hxs:xs=ys.map (·.ren ρ σ))(hB:LentBr ρ σ B B0)(hR:LentRr σ R R0)(apB:Apart ρ (names B0))(apR:Apart σ (names R0))
  (hY:∀ y B1 R1,Y y B1 R1->H0 B0 R0 y B1 R1)
  (hY':∀ y B1 R1,Y y B1 R1 -> ∃ y' B2 R2,Y' y' B2 R2/\Imp (y.ren ρ σ) y'/\SubB (LU ρ σ B1++EI ((names R0).map σ) B) B2/\SubR (NJ σ R1++R) R2):EG P gls f xs B R Y':=fun w D M V vs n hh hp=>by
 subst hxs
 have hL:Lent B R ρ σ B0 R0:=⟨fun b x hx=>hB.get hx,fun r x hx=>hR.get hx,apB,apR⟩
 let cx:Cx:=lcx w D 1 gls B R M V
 have hr:Rel cx [] B R M V { tmps := #[undef],defers:=[] } w:=⟨rfl,rfl,hh.n 1,fun t x hx=>(by cases hx)⟩
 refine(M3 (d:=0) hr hL hp hf hY Nat.zero_lt_one).mono fun e w' ⟨v,y,B1,R1,V',h1,h2,h3⟩=>?_
 obtain⟨y',B2,R2,g1,g2,g3,g4⟩:=hY' y B1 R1 h2
 have h4:=h3.sub (T':=[]) trivial g3 g4
 have hD:∀ g,Dc cx (LU ρ σ B1++EI ((names R0).map σ) B) (NJ σ R1++R) M V' w' g->Dc cx B2 R2 M V' w' g:=fun g hg=>by
  rcases hg with hg | ⟨a1,a2,a3,a4⟩
  ·exact .inl hg
  ·exact .inr ⟨a1,a2,fun b x hx=>by obtain⟨z,hz,_⟩:=g3.get hx;exact a3 b z hz,fun r x hx=>a4 r x (g4.get hx)⟩
 have hv:=h3.tmp 0 _ (B5 _ _ _)
 rw[EW _ 0 0 v (by show 0<1;exact Nat.zero_lt_one),if_pos rfl]at hv
 exact⟨v,y',B2,R2,M,V',h1,g1,h4.heap.n n,(g2 _ _ _ _ _ hv).stay (Keeps.refl _ _) hD⟩
theorem Q1E(cs:List Value):Kn T (.const (.agg cs.toArray)) (.part (.many (cs.map .cell))):=fun w D _ _ _ _=>⟨cs,rfl,J9 w D cs⟩
theorem MS{ops:Array Oper}{Q:Exit->Act->World->Prop}{o1 o2:Oper}{l:List Oper}{d:Nat}{x i y:Operand}{t st:TypeId}{r k n:Nat}{ty:TypeId}{ds zs es:List Dat}{kk:IntKind}(hg1:o1.guard=none)(hd1:o1.dst=some d)(hn1:Nat.blt d cx.n=true)(ho1:o1.op=.indexAddr t x i)(hx:Kn T x (.own r))(hr:lk r R=some ⟨ty,k,n+1,ds++zs,false⟩)(hzs:zs.length=k)(hi:Kn T i (.is (.int kk (n:Int))))
  (ht:P.underlying t=some (.slice (P.elem t))) (hs:sizeT P (P.elem t)=some k) (hg2:o2.guard=none) (hd2:o2.dst=none) (ho2:o2.op=.store st (.tmp d) y) (hy:Kn ((d,.junk)::T) y (.part (.many es))) (h1:es.all Dat.isOne=true) (hel:es.length=k) (hst:sizeT P st=some k)
  (hE:E cx ((d,.junk)::T) B ((r,⟨ty,k,n+1,ds++es,false⟩)::R) (wpList P ops Q l)) (hty:Nat.blt ty 1000000=true:=by rfl):E cx T B R (wpList P ops Q (o1::o2::l)):=fun M V a w hrel=>by
 have hh:=hrel.heap
 have hxv:a.eval x=V r:=hx w (Dc cx B R M V w) M V a fun t z _ hz=>hrel.tmp t z hz
 have hiv:a.eval i=.int kk (n:Int):=(hi w (Dc cx B R M V w) M V a fun t z _ hz=>hrel.tmp t z hz).is_eq
 obtain⟨xs,hown,hfx⟩:Gr w (Dc cx B R M V w) 0 ty k (V r) (n+1) (ds++zs):=Gx.row (hh.row r _ hr) hty
 obtain⟨hxl,hv⟩:=hown
 obtain⟨g,cap,cur,hVr,_,hg,hcap,hmax,hcs,hcx⟩:=hv.resolve_left fun h=>Nat.succ_ne_zero _ h.2
 have hob:obk (V r)=some g:=by rw[hVr];rfl
 have hdl:ds.length=n*k:=by
  have:=hfx.1
  rw[List.length_append,hzs,hxl,Nat.succ_mul]at this
  omega
 have hle:n*k+k<=cap*k:=by
  rw[<- Nat.succ_mul]
  exact Nat.mul_le_mul_right _ hcap
 refine wpList_plain hg1 fun K hK=>?_
 have hadd:(⟨g,0,none⟩:Addr).add (n*k)=⟨g,n*k,none⟩:=by unfold Addr.add;split<;>simp_all
 have h7:=run_indexAt_slice (P:=P) w t ⟨g,0,none⟩ (n+1) cap kk (n:Int) ht
 rw[if_pos ⟨by omega,by omega⟩,CM hs,Result.andThen_ok,Int.toNat_natCast,hadd]at h7
 have hrun:(execOp a.eval o1).run P w=.ok (.value (.pointer (some ⟨g,n*k,none⟩))) w:=by
  simp[execOp,ho1,hxv,hiv,hVr,h7]
 unfold Oper.wp
 rw[hrun]
 simp only[Oper.upon,hd1]
 refine hK _ _ ?_
 have hr1:Rel cx ((d,.junk)::T) B R M V (a.put (some d) (.pointer (some ⟨g,n*k,none⟩))) w:=hrel.put (Below.refl _ _) (C0 hn1) trivial
 generalize ha1:a.put (some d) (.pointer (some ⟨g,n*k,none⟩))=a1 at hr1 ⊢
 have hp1:a1.eval (.tmp d)=.pointer (some ⟨g,n*k,none⟩):=by
  rw[<- ha1]
  show(a.put (some d) (.pointer (some ⟨g,n*k,none⟩))).tmps.getD d undef=_
  rw[EW a d d _ (by rw[hrel.size];exact C0 hn1),if_pos rfl]
 obtain⟨us,hyv,hyf⟩:=hy w (Dc cx B R M V w) M V a1 fun t z _ hz=>hr1.tmp t z hz
 have hone:=hyf.one h1
 have hul:us.length=k:=hyf.1.symm.trans hel
 have hblk:Blk w g ty cur.toList:=by unfold Blk;rw[hg]
 have hcl:cur.toList.length=cap*k:=by simpa using hcs
 refine wpList_plain hg2 fun K hK=>?_
 have hstc:=run_storeCells_at (P:=P) g (n*k) ty us 0 cur.toList.toArray w hblk (by simp;omega) hone
 simp only[Nat.add_zero]at hstc
 have hnew:=setRow_heap w g cur.toList.toArray (cur.toList.take (n*k)++us++cur.toList.drop (n*k+us.length)).toArray ty (0,0) hblk
 have hoth:∀ q,q≠g->(w.setRow g (cur.toList.take (n*k)++us++cur.toList.drop (n*k+us.length)).toArray).heap[q]?=w.heap[q]?:=fun q hq=>setRow_other w g q _ hq
 have hsz':(w.setRow g (cur.toList.take (n*k)++us++cur.toList.drop (n*k+us.length)).toArray).heap.size=w.heap.size:=by simp
 have hrel':Rel cx ((d,.junk)::T) B ((r,⟨ty,k,n+1,ds++es,false⟩)::R) M V a1 (w.setRow g (cur.toList.take (n*k)++us++cur.toList.drop (n*k+us.length)).toArray):=by
  refine hr1.turned (z':=⟨ty,k,n+1,ds++es,false⟩) hr rfl rfl (fun q hq=>hoth q fun e=>hq (.inl (by rw[e];exact hob))) hsz' rfl rfl rfl (fun p hp=>.inl (L7 hp (DH hty))) fun D' hkeep hD=>?_
  refine⟨xs.take (n*k)++us,.inl ⟨hty,by simp[hxl,hul,Nat.succ_mul],.inr ⟨g,cap,_,hVr,Nat.zero_le _,hnew,hcap,hmax,by simp;omega,?_⟩⟩,.inl ⟨DH hty,?_⟩⟩
  ·rw[<- hcx,Nat.succ_mul,List.take_take,Nat.min_eq_left (Nat.le_add_right _ _)]
   simp only[List.append_assoc]
   rw[List.take_append,List.take_append]
   have e1:(List.take (n*k) cur.toList).length=n*k:=by rw[List.length_take,hcl];omega
   rw[e1,hul,Nat.add_sub_cancel_left,Nat.sub_self,List.take_zero,List.append_nil,List.take_of_length_le (l:=us) (by omega),List.take_of_length_le (by rw[e1];omega)]
  ·have hf1:Fits w (Dc cx B R M V w) ds (xs.take (n*k)):=by
    refine⟨by rw[List.length_take,hxl,hdl,Nat.succ_mul];omega,fun j e v he hv=>?_⟩
    have hj:j<ds.length:=by
     rcases Nat.lt_or_ge j ds.length with h | h
     ·exact h
     ·rw[List.getElem?_eq_none h]at he;cases he
    rw[List.getElem?_take]at hv
    split at hv
    ·exact hfx.2 j e v (by rw[List.getElem?_append_left hj];exact he) hv
    ·cases hv
   exact(hf1.append hyf).stay hkeep hD
 have:=hK _ _ (hE M V _ _ hrel')
 have hsz:=CM hst (w:=w)
 unfold Oper.wp execOp
 simp only[ho2,hp1,hyv,Instr.storeAt,Instr.sureAddr,Sem.run_bind,Sem.run_pure,Result.andThen_ok]
 simp[storeVar,hsz,hul,Value.cells,hstc,Oper.upon,hd2,Act.put]
 simpa[hul]using this
end
end
section
section
variable{P:Program}{cx:Cx}{T:TL}{B:BL}{R:RL}{M:Nat->Nat}{V:Nat->Value}{o:Oper}
theorem EFx.more{gls gls':List (Nat×List Value)}{f:FuncId}{ps:List Part}{Y:IV->Prop}(h:EFx P gls f ps Y)(hs:∀ x,x∈gls->x∈gls'):EFx P gls' f ps Y:=fun w D vs hD hG hp=>h w D vs hD (fun g cs hg=>hG g cs (hs _ hg)) hp
end
end
section
section
variable{P:Program}{cx:Cx}{T:TL}{B:BL}{R:RL}{o:Oper}
theorem Q5N{f:FuncId}{x:Operand}{xs:List Operand}{ts:Array TypeId}{ps:List Part}{y:IV}(ho:o.op=.call { callee:=.value x,args:=xs.toArray,argTypes:=ts })(hc:BU P f=true)(hxf:Kn T x (.is (.func (.func f) #[] #[])))(hf:EF P cx.gl f ps y)(hx:KnA T xs ps):LStep P cx B R o T y:=fun M V w a hh ht=>by
 have hkk:∀ y z,y∈x::xs->Kn T y z->VR w (Dc cx B R M V w) M V z (a.eval y):=fun y z hm hkx=>hkx w _ M V a fun t z' e hz=>ht t z' (by
  subst e
  rw[ho]
  simpa[Op.operands,Call.operands]using hm) hz
 have he:a.eval x=.func (.func f) #[] #[]:=(hkk x _ (by simp) hxf).is_eq
 have hrun:(execOp a.eval o).run P w=.ok (.enter f (xs.map a.eval).toArray) w:=by
  simp[execOp,ho,resolve,he,Deferred.ofValue,invoke,C2 hc]
 rw[hrun]
 refine⟨rfl,(QQ hh (fun x z hm hkx=>hkk x z (by simp[hm]) hkx) hx hf).mono fun _ _ ⟨v,y',h1,h2,h3,h4⟩=>⟨v,h1,h3,h2▸h4⟩⟩
end
end
section
section
variable{P:Program}{cx:Cx}{T:TL}{B:BL}{R:RL}{M:Nat->Nat}{V:Nat->Value}
theorem QD{a:Act}{d t:Nat}{v:Value}(hd:d<a.tmps.size):(a.put (some d) v).eval (.tmp t)=if d=t then v else a.eval (.tmp t):=EW a d t v hd
end
end
section
section
variable{P:Program}{cx:Cx}{T:TL}{B:BL}{R:RL}{o:Oper}
theorem Q7N{x y:Operand}{ts:Array TypeId}{k k':IntKind}{m n:Int}(ho:o.op=.call { callee:=.builtin .max,args := #[x,y],argTypes:=ts })(hx:Kn T x (.is (.int k m)))(hy:Kn T y (.is (.int k' n))):LStep P cx B R o T (.is (.int k (max m n))):=LStep.same fun M V w a _ hk=>by
 have h1:=(hk x _ (by simp[ho,Op.operands,Call.operands]) hx).is_eq
 have h2:=(hk y _ (by simp[ho,Op.operands,Call.operands]) hy).is_eq
 have h3:(if n>m then n else m)=max m n:=by
  split<;>omega
 refine⟨_,?_,.cell _⟩
 simp[execOp,ho,h1,h2,resolve,invoke,builtin,run_max_int2,h3]
variable{M:Nat->Nat}{V:Nat->Value}
end
end
section
theorem U3{α:Type}{f:α->List Dat}{k:Nat}(hk:∀ a,(f a).length=k):∀ (qs:List α) (i:Nat),(qs.flatMap f).drop (i*k)=(qs.drop i).flatMap f
 | [],i=>by simp
 | q::qs,0=>by simp
 | q::qs,i+1=>by
  rw[List.flatMap_cons,List.drop_succ_cons,<- U3 hk qs i,List.drop_append,List.drop_eq_nil_of_le (by rw[hk,Nat.succ_mul];omega),List.nil_append,hk,Nat.succ_mul,Nat.add_sub_cancel]
theorem U4{α:Type}{f:α->List Dat}{k:Nat}(hk:∀ a,(f a).length=k):∀ (qs:List α) (i:Nat),(qs.flatMap f).take (i*k)=(qs.take i).flatMap f
 | [],i=>by simp
 | q::qs,0=>by simp
 | q::qs,i+1=>by
  rw[List.flatMap_cons,List.take_succ_cons,List.flatMap_cons,<- U4 hk qs i,List.take_append,List.take_of_length_le (by rw[hk,Nat.succ_mul];omega),hk,Nat.succ_mul,Nat.add_sub_cancel]
theorem Q3v{w:World}{D:Nat->Prop}{k:Nat}{α:Type}{f:α->List Dat}(hk:∀ a,(f a).length=k){qs:List α}{p:Option Addr}{c lo hi:Nat}(h:Lies w D (.row k qs.length (qs.flatMap f)) (.slice p qs.length c))(hlh:lo<=hi)(hh:hi<=qs.length)(hc:qs.length<=c):
  Lies w D (.row k ((qs.take hi).drop lo).length (((qs.take hi).drop lo).flatMap f)) (.slice (if c=lo then p else p.map (·.add (lo*k))) (hi-lo) (c-lo)):=by
 have hl:((qs.take hi).drop lo).length=hi-lo:=by rw[List.length_drop,List.length_take];omega
 rcases Nat.eq_zero_or_pos (hi-lo)with h0 | h0
 ·rw[hl,h0,List.eq_nil_of_length_eq_zero (hl.trans h0)]
  exact .none _ _ _
 ·have hne:¬ c=lo:=by omega
  rw[if_neg hne,hl]
  have hd:((qs.take hi).drop lo).flatMap f=((qs.flatMap f).drop (lo*k)).take ((hi-lo)*k):=by
   rw[U3 hk,U4 hk,List.drop_take]
  rw[hd]
  have hp:∃ b o,p=some ⟨b,o,none⟩:=by
   generalize hn:qs.length=n at h
   generalize qs.flatMap f=ds at h
   cases h with
   | none=>omega
   | row k n b o c ds X=>exact⟨b,o,rfl⟩
  obtain⟨b,o,rfl⟩:=hp
  have hadd:(⟨b,o,none⟩:Addr).add (lo*k)=⟨b,o+lo*k,none⟩:=by unfold Addr.add;split<;>simp_all
  rw[Option.map_some,hadd]
  exact Q5j h hlh hh _ (by omega)
theorem Q6g{w:World}{D:Nat->Prop}{k n:Nat}{ds:List Dat}{v:Value}(h:Lies w D (.row k n ds) v):∃ p c,v=.slice p n c/\n<=c:=by
 cases h with
 | none k p c=>exact⟨p,c,rfl,Nat.zero_le _⟩
 | row k n b o c ds X h1 h2=>exact⟨_,c,rfl,h2⟩
section
variable{P:Program}{cx:Cx}{T:TL}{B:BL}{R:RL}{o:Oper}
theorem YA{x hi:Operand}{t:TypeId}{k:Nat}{α:Type}{f:α->List Dat}{qs:List α}{kk:IntKind}{z:Int}(ho:o.op=.slice t x none (some hi) none)(hx:Kn T x (.part (.one (.row k qs.length (qs.flatMap f)))))(hh:Kn T hi (.is (.int kk z)))(hz:0<=z/\z<=(qs.length:Int))(hk:∀ a,(f a).length=k)(ht:P.underlying t=some (.slice (P.elem t)))(hs:sizeT P (P.elem t)=some k):
  LStep P cx B R o T (.part (.one (.row k (qs.take z.toNat).length ((qs.take z.toNat).flatMap f)))):=LStep.same fun M V w a _ hkk=>by
 have h1:=(hkk hi _ (by simp[ho,Op.operands]) hh).is_eq
 have hv:=hkk x _ (by simp[ho,Op.operands]) hx
 obtain⟨p,c,h2,h3⟩:=Q6g hv
 rw[h2]at hv
 have h4:=Q3v hk hv (Nat.zero_le z.toNat) (by omega) h3
 have h5:=run_slice_h (P:=P) (w:=w) t p qs.length c ht kk z hz.1 (by omega)
 rw[CM hs,Result.andThen_ok,<- run_sliceAt_slice _ _ _ _ _ _ ht]at h5
 rw[List.drop_zero]at h4
 exact⟨sliced _ _ _ _ _,by simp[execOp,ho,h1,h2,h5],h4⟩
end
end
section
section
variable{P:Program}{cx:Cx}{T:TL}{B:BL}{R:RL}{o:Oper}
theorem Rel.row_turn{M:Nat->Nat}{V:Nat->Value}{a:Act}{w w':World}(hr:Rel cx T B R M V a w){r g:Nat}{z z':Rw}(hr0:lk r R=some z)(hf0:z.fz=false)(hob:obk (V r)=some g)(hz':z'.fz=false)(hty':Nat.blt z'.ty 2000000=true)(hoth:∀ q,q≠g->w'.heap[q]?=w.heap[q]?)(hsz:w'.heap.size=w.heap.size)(hos:w'.os=w.os)(htp:w'.tape=w.tape)(hou:w'.output=w.output)
  (hnew:∀ D',Keeps (Dc cx B R M V w) w w'->(∀ q,Dc cx B R M V w q->D' q)->Gx w' D' 0 z'.ty z'.k (V r) z'.n z'.ds):Rel cx T B ((r,z')::R) M V a w':=by
 exact hr.turned hr0 hf0 hz' (fun q hq=>hoth q fun e=>hq (.inl (by rw[e];exact hob))) hsz hos htp hou (fun p hp=>.inl (L7 hp hty')) hnew
variable{α:Type}
def mds(kf:α->Value)(ps:List (α×Dat)):List Dat:=ps.flatMap fun p=>[.cell (kf p.1),p.2]
def DN[DecidableEq α](x:α):List (α×Dat)->Option Dat
 | []=>none
 | p::ps=>if x=p.1 then some p.2 else DN x ps
def GB[DecidableEq α](x:α)(d:Dat):List (α×Dat)->List (α×Dat)
 | []=>[(x,d)]
 | p::ps=>if x=p.1 then(x,d)::ps else p::GB x d ps
structure KeyF [DecidableEq α] (P:Program) (kt:TypeId) (kf:α->Value):Prop where
 same:∃ desc,P.underlying kt=some desc /\ ∀ x y:α,Instr.sameNow desc (kf x) (kf y)=some (decide (x=y))
 chk:∀ (e:Bool) (x:α) (w:World),(Instr.checkKey e 10000 kt (kf x)).run P w=.ok () w
 bits:∀ x:α,Instr.sameBits 10000 (kf x) (kf x)=true
theorem Q1N(a b:List UInt8):(str a==str b)=decide (a=b):=by
 have:(str a==str b)=((str a).data==(str b).data):=rfl
 rw[this]
 by_cases h:a=b
 ·subst h
  simp
 ·rw[decide_eq_false h]
  simpa[str]using h
theorem Q6T{kt:TypeId}(h:P.underlying kt=some .string):KeyF P kt (fun s:List UInt8=>Value.string (str s)):=
 ⟨⟨_,h,fun x y=>congrArg some (Q1N x y)⟩,fun e x w=>by unfold Instr.checkKey;simp[run_underlying h,Result.andThen],fun x=>by unfold Instr.sameBits;rw[Q1N];simp⟩
theorem Q6N{kt:TypeId}{k:IntKind}(h:P.underlying kt=some (.int k)):KeyF P kt (fun z:Int=>Value.int k z):=
 ⟨⟨_,h,fun x y=>by simp only[Instr.sameNow,if_true];congr 1⟩,fun e x w=>by unfold Instr.checkKey;simp[run_underlying h,Result.andThen],fun x=>by simp[Instr.sameBits]⟩
def MEs(w:World)(D:Nat->Prop)(kf:α->Value):List (α×Dat)->List MapEntry->Prop
 | [],[]=>True
 | p::ps,e::es=>e.key=kf p.1/\Lies w D p.2 e.val/\MEs w D kf ps es
 | _,_=>False
variable{w w':World}{D D':Nat->Prop}{kf:α->Value}
theorem Q0d:∀ {ps:List (α×Dat)} {es:List MapEntry},Fits w D (mds kf ps) (kvs es)->MEs w D kf ps es
 | [],[],_=>trivial
 | p::ps,e::es,h=>by
  obtain⟨x,ys,h1,h2,h3⟩:=Fits.head (d:=.cell (kf p.1)) (ds:=p.2::mds kf ps) h
  obtain⟨x',ys',h4,h5,h6⟩:=Fits.head h3
  have e1:e.key::e.val::kvs es=x::ys:=h1
  rw[h4]at e1
  injection e1 with e1 e2
  injection e2 with e2 e3
  exact⟨e1.trans h2.cell_eq,e2▸h5,Q0d (e3▸h6)⟩
 | [],e::es,h=>by have:=h.1;simp[mds,kvs]at this
 | p::ps,[],h=>by have:=h.1;simp[mds,kvs]at this
theorem ZQ:∀ {ps:List (α×Dat)} {es:List MapEntry},MEs w D kf ps es->Fits w D (mds kf ps) (kvs es)
 | [],[],_=>Fits.nil _ _
 | p::ps,e::es,h=>.cons (by rw[h.1];exact .cell _) (.cons h.2.1 (ZQ h.2.2))
 | [],_::_,h=>h.elim
 | _::_,[],h=>h.elim
theorem MEs.length:∀ {ps:List (α×Dat)} {es:List MapEntry},MEs w D kf ps es->es.length=ps.length
 | [],[],_=>rfl
 | _::_,_::_,h=>by simp[MEs.length h.2.2]
 | [],_::_,h=>h.elim
 | _::_,[],h=>h.elim
theorem MEs.stay(hk:Keeps D w w')(hD:∀ g,D g->D' g):∀ {ps:List (α×Dat)} {es:List MapEntry},MEs w D kf ps es->MEs w' D' kf ps es
 | [],[],_=>trivial
 | _::_,_::_,h=>⟨h.1,h.2.1.stay hk hD,MEs.stay hk hD h.2.2⟩
 | [],_::_,h=>h.elim
 | _::_,[],h=>h.elim
variable[DecidableEq α]
theorem RC{kt:TypeId}(K:KeyF P kt kf){desc:TypeDesc}(hd:P.underlying kt=some desc)(x:α):∀ {ps:List (α×Dat)} {es:List MapEntry} (i:Nat),MEs w D kf ps es ->
  (DN x ps=none/\Instr.findNow desc (kf x) es i=some none /\ ∀ d v w' D' b,MEs w' D' kf ps es->Lies w' D' d v->MEs w' D' kf (GB x d ps) (es++[{ key:=kf x,val:=v,born:=b }])) \/
  ∃ j d e,DN x ps=some d/\es[j]?=some e/\e.key=kf x/\Lies w D d e.val/\Instr.findNow desc (kf x) es i=some (some (i+j,e.val)) /\ ∀ d' v w' D',MEs w' D' kf ps es->Lies w' D' d' v->MEs w' D' kf (GB x d' ps) (es.modify j fun e=>{ e with key:=kf x,val:=v })
 | [],[],i,_=>.inl ⟨rfl,rfl,fun d v w' D' b _ hv=>⟨rfl,hv,trivial⟩⟩
 | p::ps,e::es,i,h=>by
  obtain⟨desc',h1,h2⟩:=K.same
  obtain rfl:desc=desc':=Option.some.inj (hd.symm.trans h1)
  by_cases hx:x=p.1
  ·refine .inr ⟨0,p.2,e,by simp[DN,hx],rfl,h.1.trans (by rw[hx]),h.2.1,?_,fun d' v w' D' h' hv=>?_⟩
   ·simp[Instr.findNow,h.1,h2,hx]
   ·have:GB x d' (p::ps)=(x,d')::ps:=by simp[GB,hx]
    rw[this]
    exact⟨rfl,hv,h'.2.2⟩
  ·have e0:Instr.findNow desc (kf x) (e::es) i=Instr.findNow desc (kf x) es (i+1):=by simp[Instr.findNow,h.1,h2,hx]
   have e1:DN x (p::ps)=DN x ps:=by simp[DN,hx]
   have e2:∀ d,GB x d (p::ps)=p::GB x d ps:=fun d=>by simp[GB,hx]
   rw[e0,e1]
   rcases RC K hd x (i+1) h.2.2 with⟨a1,a2,a3⟩ | ⟨j,d,e',a1,a2,a3,a4,a5,a6⟩
   ·exact .inl ⟨a1,a2,fun d v w' D' b h' hv=>by rw[e2];exact⟨h'.1,h'.2.1,a3 d v w' D' b h'.2.2 hv⟩⟩
   ·refine .inr ⟨j+1,d,e',a1,by simpa using a2,a3,a4,by rw[a5];congr 3;omega,fun d' v w' D' h' hv=>?_⟩
    rw[e2,List.modify_succ_cons]
    exact⟨h'.1,h'.2.1,a6 d' v w' D' h'.2.2 hv⟩
 | [],_::_,_,h=>h.elim
 | _::_,[],_,h=>h.elim
theorem RD{t kt et:TypeId}(ht:P.underlying t=some (.map kt et))(K:KeyF P kt kf){z:Value}(hz:∀ w:World,(zeroValue et).run P w=.ok z w){g:Nat}{es:Array MapEntry}{clock:Nat}(hg:w.heap[g]?=some (.map es clock)){ps:List (α×Dat)}(h:MEs w D kf ps es.toList)(x:α)(ok:Bool):
  ∃ v,Lies w D ((DN x ps).getD (.cell z)) v/\(Instr.lookup t (.map (some g)) (kf x) ok).run P w=.ok (if ok then .tuple #[v,.bool (DN x ps).isSome]else v) w:=by
 obtain⟨desc,h1,_⟩:=K.same
 rcases RC K h1 x 0 h with⟨a1,a2,_⟩ | ⟨j,d,e',a1,a2,a3,a4,a5,_⟩
 ·refine⟨z,by rw[a1];exact .cell z,?_⟩
  simp[Instr.lookup,run_underlying ht,MapKept.run_getObj_map hg,K.chk,Instr.findKey,run_underlying h1,a2,hz,Result.andThen,a1]
 ·refine⟨e'.val,by rw[a1];exact a4,?_⟩
  simp[Instr.lookup,run_underlying ht,MapKept.run_getObj_map hg,K.chk,Instr.findKey,run_underlying h1,a5,Result.andThen,a1]
end
end
section
section
variable{P:Program}{cx:Cx}{T:TL}{B:BL}{R:RL}{o:Oper}{α:Type}{kf:α->Value}
def NN(P:Program)(t:TypeId):Option Value:=(P.info? t).bind (·.zero)
theorem OP{t:TypeId}{z:Value}(h:NN P t=some z)(w:World):(zeroValue t).run P w=.ok z w:=by
 unfold NN at h
 cases hi:P.info? t with
 | none=>simp[hi]at h
 | some i=>
  have hz:i.zero=some z:=by simpa[hi]using h
  simp[zeroValue,typeInfo,hi,hz,Result.andThen]
theorem MapRow.mes{w:World}{D:Nat->Prop}{base:Nat}{e:TypeId}{k n:Nat}{v:Value}{ps:List (α×Dat)}(h:Gx w D base e k v n (mds kf ps))(hty:Nat.blt e 1000000=false)(hty2:Nat.blt e 2000000=true):∃ g es clock,v=.map (some g)/\base<=g/\w.heap[g]?=some (.map es clock)/\es.size=n/\MEs w D kf ps es.toList:=by
 obtain⟨xs,⟨h0,_⟩ | ⟨_,g,es,clock,h1,h2,h3,h4,h5⟩ | ⟨h0,_⟩,h6⟩:=h
 ·rw[hty]at h0;cases h0
 ·exact⟨g,es,clock,h1,h2,h3,h4,Q0d (h5▸h6.row hty2)⟩
 ·rw[hty2]at h0;cases h0
variable[DecidableEq α]
theorem Q5l{x i:Operand}{t kt et:TypeId}{r k n ty:Nat}{ps:List (α×Dat)}{c:α}{z:Value}(ho:o.op=.lookup t x i false)(hx:Kn T x (.own r))(hr:lk r R=some ⟨ty,k,n,mds kf ps,false⟩)(hi:Kn T i (.is (kf c)))(K:KeyF P kt kf)(ht:P.underlying t=some (.map kt et))(hz:NN P et=some z)(hty:Nat.blt ty 1000000=false:=by rfl)(hty2:Nat.blt ty 2000000=true:=by rfl):
  LStep P cx B R o T (.part (.one ((DN c ps).getD (.cell z)))):=LStep.same fun M V w a hh hk=>by
 have h1:a.eval x=V r:=hk x _ (by simp[ho,Op.operands]) hx
 have h2:a.eval i=kf c:=(hk i _ (by simp[ho,Op.operands]) hi).is_eq
 have hrow:Gx w (Dc cx B R M V w) 0 ty k (V r) n (mds kf ps):=hh.row r _ hr
 obtain⟨g,es,clock,e1,_,e3,_,e5⟩:=MapRow.mes hrow hty hty2
 obtain⟨v,hv,hrun⟩:=RD ht K (OP hz) e3 e5 c false
 exact⟨_,by simp[execOp,ho,h1,h2,e1,hrun],hv⟩
omit [DecidableEq α] in
theorem YC{w:World}{D:Nat->Prop}{n:Nat}{v:Value}{ps:List (α×Dat)}(h:Lies w D (.map n (mds kf ps)) v):∃ g es clock,v=.map (some g)/\w.heap[g]?=some (.map es clock)/\es.size=n/\MEs w D kf ps es.toList:=by
 generalize hd:mds kf ps=ds at h
 cases h with
 | map g n es clock ds xs h1 h2 h3 h4 h5 h6=>
  subst hd
  subst h4
  exact⟨g,es,clock,rfl,h2,h3,Q0d ⟨h5,h6⟩⟩
theorem Q6i{x i:Operand}{t kt et:TypeId}{n:Nat}{ps:List (α×Dat)}{c:α}{z:Value}(ho:o.op=.lookup t x i true)(hx:Kn T x (.part (.one (.map n (mds kf ps)))))(hi:Kn T i (.is (kf c)))(K:KeyF P kt kf)(ht:P.underlying t=some (.map kt et))(hz:NN P et=some z):
  LStep P cx B R o T (.tup [.one ((DN c ps).getD (.cell z)),.one (.cell (.bool (DN c ps).isSome))]):=LStep.same fun M V w a hh hk=>by
 have h1:Lies w _ _ (a.eval x):=hk x _ (by simp[ho,Op.operands]) hx
 have h2:a.eval i=kf c:=(hk i _ (by simp[ho,Op.operands]) hi).is_eq
 obtain⟨g,es,clock,e1,e3,_,e5⟩:=YC h1
 obtain⟨v,hv,hrun⟩:=RD ht K (OP hz) e3 e5 c true
 exact⟨.tuple [v,.bool (DN c ps).isSome].toArray,by simp[execOp,ho,h2,e1,hrun],[v,.bool (DN c ps).isSome],rfl,hv,.cell _,trivial⟩
theorem Q49{x i:Operand}{t kt et:TypeId}{n:Nat}{ps:List (α×Dat)}{c:α}{z:Value}(ho:o.op=.lookup t x i false)(hx:Kn T x (.part (.one (.map n (mds kf ps)))))(hi:Kn T i (.is (kf c)))(K:KeyF P kt kf)(ht:P.underlying t=some (.map kt et))(hz:NN P et=some z):
  LStep P cx B R o T (.part (.one ((DN c ps).getD (.cell z)))):=LStep.same fun M V w a hh hk=>by
 have h1:Lies w _ _ (a.eval x):=hk x _ (by simp[ho,Op.operands]) hx
 have h2:a.eval i=kf c:=(hk i _ (by simp[ho,Op.operands]) hi).is_eq
 obtain⟨g,es,clock,e1,e3,_,e5⟩:=YC h1
 obtain⟨v,hv,hrun⟩:=RD ht K (OP hz) e3 e5 c false
 exact⟨_,by simp[execOp,ho,h2,e1,hrun],hv⟩
theorem WV{ops:Array Oper}{Q:Exit->Act->World->Prop}{l:List Oper}{x i y:Operand}{t kt et:TypeId}{r k n ty:Nat}{ps:List (α×Dat)}{c:α}{d:Dat}(hg:o.guard=none)(hd:o.dst=none)(ho:o.op=.mapUpdate t x i y)(hx:Kn T x (.own r))(hr:lk r R=some ⟨ty,k,n,mds kf ps,false⟩)(hi:Kn T i (.is (kf c)))(hy:Kn T y (.part (.one d)))(K:KeyF P kt kf)(ht:P.underlying t=some (.map kt et))
  (hE:E cx T B ((r,⟨ty,k,(GB c d ps).length,mds kf (GB c d ps),false⟩)::R) (wpList P ops Q l)) (hty:Nat.blt ty 1000000=false:=by rfl) (hty2:Nat.blt ty 2000000=true:=by rfl):E cx T B R (wpList P ops Q (o::l)):=fun M V a w hrel=>by
 refine wpList_plain hg fun Q' hK=>?_
 have hh:=hrel.heap
 have hxv:a.eval x=V r:=hx w (Dc cx B R M V w) M V a fun t z _ hz=>hrel.tmp t z hz
 have hiv:a.eval i=kf c:=(hi w (Dc cx B R M V w) M V a fun t z _ hz=>hrel.tmp t z hz).is_eq
 have hyv:Lies w (Dc cx B R M V w) d (a.eval y):=hy w (Dc cx B R M V w) M V a fun t z _ hz=>hrel.tmp t z hz
 have hrow:Gx w (Dc cx B R M V w) 0 ty k (V r) n (mds kf ps):=hh.row r _ hr
 obtain⟨g,es,clock,e1,_,e3,e4,e5⟩:=MapRow.mes hrow hty hty2
 have hob:obk (V r)=some g:=by rw[e1];rfl
 obtain⟨desc,h1,_⟩:=K.same
 have hout:∃ es' clock',(Instr.mapUpdate t (.map (some g)) (kf c) (a.eval y)).run P w=.ok () (ChangeMaps.setBlock w g (.map es' clock')) /\ ∀ w' D',MEs w' D' kf ps es.toList->Lies w' D' d (a.eval y)->MEs w' D' kf (GB c d ps) es'.toList:=by
  rcases RC K h1 c 0 e5 with⟨a1,a2,a3⟩ | ⟨j,d0,e',a1,a2,a3,a4,a5,a6⟩
  ·refine⟨es.push { key:=kf c,val:=a.eval y,born:=clock },clock+1,?_,fun w' D' hm hv=>?_⟩
   ·simp[Instr.mapUpdate,run_underlying ht,MapKept.run_getObj_map e3,K.chk,Instr.findKey,run_underlying h1,a2,MapKept.run_setObj_map _ e3,Result.andThen,ChangeMaps.setBlock]
   ·rw[Array.toList_push]
    exact a3 d _ w' D' clock hm hv
  ·have hj:es[j]?=some e':=by simpa using a2
   refine⟨es.modify j fun e=>{ e with key:=kf c,val:=a.eval y },clock,?_,fun w' D' hm hv=>?_⟩
   ·simp[Instr.mapUpdate,run_underlying ht,MapKept.run_getObj_map e3,K.chk,Instr.findKey,run_underlying h1,a5,hj,a3,Instr.keyThatStays,K.bits,MapKept.run_setObj_map _ e3,Result.andThen,ChangeMaps.setBlock]
   ·rw[Array.toList_modify]
    exact a6 d _ w' D' hm hv
 obtain⟨es',clock',hrun,hmes⟩:=hout
 have hrel':Rel cx T B ((r,⟨ty,k,(GB c d ps).length,mds kf (GB c d ps),false⟩)::R) M V a (ChangeMaps.setBlock w g (.map es' clock')):=by
  refine hrel.row_turn hr rfl hob rfl hty2 (fun q hq=>ChangeMaps.heap_setBlock_other e3 _ hq) (by simp[ChangeMaps.setBlock]) rfl rfl rfl fun D' hk hD=>?_
  have hm:=hmes _ _ (MEs.stay hk hD e5) (hyv.stay hk hD)
  exact⟨_,.inr (.inl ⟨⟨hty,hty2⟩,g,es',clock',e1,Nat.zero_le _,ChangeMaps.heap_setBlock_same e3 _,by rw[<- hm.length];simp,rfl⟩),.inl ⟨hty2,ZQ hm⟩⟩
 have:=hK _ _ (hE M V _ _ hrel')
 unfold Oper.wp execOp
 simp[ho,hxv,hiv,e1,hrun,Oper.upon,hd,Result.andThen]
 exact this
end
end
end Go.Proofs.YtgcphgdkddihcaaGreatDoor
