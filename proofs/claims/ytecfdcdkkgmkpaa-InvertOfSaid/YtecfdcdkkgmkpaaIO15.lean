/- Part 15. Conditions: as each theorem says. -/
import Derived.Test.YtecfdcdkkgmkpaaIO14
import Derived.Test.YtecfdcdkkgmkpaaProg
set_option maxRecDepth 100000
namespace Go.Proofs.Ytecfdcdkkgmkpaa
open Go.RowKit
section
def W4(ops:Array Oper)(m:Nat):Bool:=
 decide (m<ops.size)&&Region.sinkB .any ops m&&Region.chainB .any ops m&&Region.seqB .any ops (ops.size-m) m (Array.replicate m true++Array.replicate (ops.size-m) false) &&
 (List.range m).all fun i=>match ops[i]? with
  | none=>false
  | some o=>o.guard.isNone&&o.after.all (fun e => !Region.binds .any e||Nat.blt e.on i)&&match o.dst with
   | none=>false
   | some d=>(List.range m).all fun j=>match (ops[j]?).bind (·.dst)with
    | none=>false
    | some t=>(Nat.beq j i || !Nat.beq t d)&&(!(o.looksAt ops).contains t||Region.waitsFor .any ops i j)
inductive WalkU (P:Program) (cx:Cx) (B:BL) (R:RL) (n b:Nat):Nat->List Oper->TL->List IV->Prop
 | nil {i:Nat} {T:TL}:WalkU P cx B R n b i [] T []
 | op {i:Nat} {o:Oper} {d:Nat} {l:List Oper} {T:TL} {y:IV} {ys:List IV}:o.dst=some d->Nat.blt d cx.n=true->LStep P cx B R o T y->WalkU P cx B R n b (i+1) l ((d,y)::T) ys->WalkU P cx B R n b i (o::l) T (y::ys)
 | new {i:Nat} {o:Oper} {d:Nat} {l:List Oper} {T:TL} {ys:List IV}:i=n->o.dst=some d->WalkU P cx B R n b (i+1) l ((d,.box b 0)::T) ys->WalkU P cx B R n b i (o::l) T (.box b 0::ys)
section
variable{P:Program}{cx:Cx}{T:TL}{B:BL}{R:RL}{n b:Nat}
theorem WalkU.len{i:Nat}{l:List Oper}{ys:List IV}(h:WalkU P cx B R n b i l T ys):ys.length=l.length:=by
 induction h with
 | nil=>rfl
 | op _ _ _ _ ih=>simp[ih]
 | new _ _ _ ih=>simp[ih]
theorem WalkU.get{i:Nat}{l:List Oper}{ys:List IV}(h:WalkU P cx B R n b i l T ys):∀ (j:Nat) (o:Oper) (y:IV),l[j]?=some o->ys[j]?=some y->(i+j=n/\y=.box b 0)\/(∃ d Tj,o.dst=some d/\Nat.blt d cx.n=true/\LStep P cx B R o Tj y /\ ∀ t z,lk t Tj=some z->(∃ k ok,k<j/\l[k]?=some ok/\ok.dst=some t/\ys[k]?=some z)\/lk t T=some z):=by
 induction h with
 | nil=>grind
 | @op i o d l T y ys h1 h2 h3 _ ih=>
  intro j o' y' ho hy
  cases j with
  | zero=>
   grind
  | succ j=>
   rcases ih j o' y' (by simpa using ho) (by grind)with⟨e,hy⟩ | ⟨d',Tj,e1,e2,e3,e4⟩
   ·grind
   ·refine .inr ⟨d',Tj,e1,e2,e3,fun t z hz=>?_⟩
    rcases e4 t z hz with⟨k,ok,hk,a1,a2,a3⟩ | hz
    ·exact .inl ⟨k+1,ok,by omega,by simpa using a1,a2,by grind⟩
    ·rcases AK hz with⟨rfl,rfl⟩ | ⟨_,hz⟩
     ·exact .inl ⟨0,o,by omega,rfl,h1,rfl⟩
     grind
 | @new i o d l T ys h0 h1 _ ih=>
  intro j o' y' ho hy
  cases j with
  | zero=>
   grind
  | succ j=>
   rcases ih j o' y' (by simpa using ho) (by grind)with⟨e,hy⟩ | ⟨d',Tj,e1,e2,e3,e4⟩
   ·grind
   ·refine .inr ⟨d',Tj,e1,e2,e3,fun t z hz=>?_⟩
    rcases e4 t z hz with⟨k,ok,hk,a1,a2,a3⟩ | hz
    ·exact .inl ⟨k+1,ok,by omega,by simpa using a1,a2,by grind⟩
    ·rcases AK hz with⟨rfl,rfl⟩ | ⟨_,hz⟩
     ·exact .inl ⟨0,o,by omega,rfl,h1,rfl⟩
     grind
theorem LStep.more{o:Oper}{y:IV}{T':TL}(h:LStep P cx B R o T y)(hT:∀ t z,.tmp t∈o.op.operands->lk t T=some z->lk t T'=some z):LStep P cx B R o T' y:=fun M V w a hh hk=>h M V w a hh fun t z ht hz=>hk t z ht (hT t z ht hz)
def GP(m:Nat)(listed:Array Bool):Nat:=(List.range m).countP fun j => !listed.getD j false
theorem JZ{p q:Nat->Bool}{i:Nat}(hp:p i=true)(hq:q i=false)(he:∀ j,j≠i->q j=p j):∀ {l:List Nat},l.Nodup->i∈l->l.countP p=l.countP q+1
 | [],_,h=>by cases h
 | x::l,hn,h=>by
  obtain⟨h1,h2⟩:=List.nodup_cons.1 hn
  by_cases e:x=i
  ·grind[List.countP_congr]
  ·have h3:=JZ hp hq he h2 ((List.mem_cons.1 h).resolve_left fun h=>e h.symm)
   grind
theorem QP{m i:Nat}{listed:Array Bool}(hi:i<m)(h:listed.getD i true=false):GP m listed=GP m (listed.setIfInBounds i true)+1:=by
 have hlt:i<listed.size:=by
  rcases Nat.lt_or_ge i listed.size with h' | h'
  ·exact h'
  ·grind
 refine JZ (i:=i) ?_ ?_ (fun j hj=>?_) List.nodup_range (List.mem_range.2 hi)
 ·grind
 ·simp[hlt]
 simp_all[Ne.symm]
theorem JU{m:Nat}{listed:Array Bool}(h:GP m listed=0)(j:Nat)(hj:j<m):listed.getD j false=true:=by
 have:=List.countP_eq_zero.1 h j (List.mem_range.2 hj)
 grind
theorem QL{m:Nat}{ops:Array Oper}{listed:Array Bool}(h:GP m listed=0)(hm:m<ops.size)(inv:HeadInv .any ops m listed):listed=Array.replicate m true++Array.replicate (ops.size-m) false:=by
 apply Array.ext
 ·simp[inv.size];omega
 intro j h1 h2
 rw[Array.getElem_append]
 split
 ·rename_i hj
  have:=JU h j (by grind)
  simp_all
 ·rename_i hj
  have:=inv.tail j (by simpa using hj) (by grind)
  simp_all
theorem OD{ops:Array Oper}{listed:Array Bool}{i j:Nat}(hr:i∈Region.ready .any ops listed)(hw:Region.waitsFor .any ops i j=true):listed.getD j false=true:=by
 obtain⟨oj,ho,e,he,hb,rfl⟩:=Region.waitsFor_spec hw
 grind[mem_ready]
structure MadeInv (cx:Cx) (T:TL) (B B1:BL) (R:RL) (ops:Array Oper) (n m b:Nat) (es:List IV) (listed:Array Bool) (T':TL) (B':BL):Prop where
 hd:HeadInv .any ops m listed
 bl:B'=if listed.getD n false=true then B1 else B
 old:∀ t x,lk t T=some x->lk t T'=some x
 new:∀ j o d y,j<m->ops[j]?=some o->o.dst=some d->es[j]?=some y->listed.getD j false=true->lk d T'=some y
 nob:listed.getD n false=false->nobT b T'=true
theorem RC{id m:Nat}{l:List Oper}{on:Oper}{ty:TypeId}{zs:List Value}{is:List IV}{Q:Exit->Act->World->Prop}{es:List IV}{dn:Nat}(Tw:TL)(hm:P.follows .mixedOrders=true)(hB:W4 l.toArray m=true)
  (hnm:Nat.blt n m=true) (hon:l[n]?=some on) (hdn:on.dst=some dn) (hdn2:Nat.blt dn cx.n=true) (ho:on.op=.alloc ty) (hz:C8 P ty=some zs) (hc:∀ (w:World) (D:Nat->Prop) (M:Nat->Nat) (V:Nat->Value),CFit w D M V is zs) (hpn:cx.pn.all (fun c => !Nat.beq c b)=true) (hT:nobT b T=true) (hBb:VB b B=true) (his:is.all (·.nob b)=true)
  (hdst:T.all (fun x=>(l.take m).all fun o=>match o.dst with | none=>true | some d => !Nat.beq d x.1)=true)
  (hW0:WalkU P cx B R n b 0 (l.take m) T es) (hW1:WalkU P cx ((b,⟨ty,is⟩)::B) R n b 0 (l.take m) T es) (hen:es[n]?=some (.box b 0)) (hnob:(es.zipIdx.all fun x=>Nat.beq x.2 n||x.1.nob b)=true)
  (hw:∀ T',(∀ t x,lk t T=some x->lk t T'=some x)->(∀ j o d y,j<m->l[j]?=some o->o.dst=some d->es[j]?=some y->lk d T'=some y)->SubT T' Tw)
  (h:E cx Tw ((b,⟨ty,is⟩)::B) R (wpList P l.toArray Q (l.drop m))):E cx T B R ((Code.region id l.toArray true).wp P Q):=fun M V a w hr=>by
 simp only[W4,Bool.and_eq_true,decide_eq_true_eq]at hB
 obtain⟨⟨⟨⟨hms,hs⟩,hch⟩,hseq⟩,hall⟩:=hB
 have hms':m<l.length:=by simpa using hms
 have hnm':=CJ hnm
 have hlen:=hW0.len
 rw[List.length_take,Nat.min_eq_left (by omega)]at hlen
 have htk:∀ j,j<m->(l.take m)[j]?=l[j]?:=fun j hj=>by grind
 have hop:∀ j:Nat,l.toArray[j]?=l[j]?:=fun j=>by simp
 have hck:∀ i o,i<m->l[i]?=some o->o.guard=none/\(∀ e∈o.after,Region.binds .any e=true->e.on<i) /\ ∃ d,o.dst=some d /\ ∀ j oj,j<m->l[j]?=some oj -> ∃ t,oj.dst=some t/\(j≠i->t≠d)/\(t∈o.looksAt l.toArray->Region.waitsFor .any l.toArray i j=true):=fun i o hi hio=>by
  have h1:=List.all_eq_true.1 hall i (List.mem_range.2 hi)
  rw[hop,hio]at h1
  simp only[Bool.and_eq_true]at h1
  obtain⟨⟨h1,h2⟩,h3⟩:=h1
  refine⟨Option.isNone_iff_eq_none.1 h1,fun e he hb=>?_,?_⟩
  ·have:=Array.all_eq_true_iff_forall_mem.1 h2 e he
   simp_all
  ·cases hd:o.dst with
   | none=>grind
   | some d=>
    rw[hd]at h3
    refine⟨d,rfl,fun j oj hj hjo=>?_⟩
    have h4:=List.all_eq_true.1 h3 j (List.mem_range.2 hj)
    rw[hop,hjo]at h4
    cases ht:oj.dst with
    | none=>grind
    | some t=>
     simp only[Option.bind_some,ht,Bool.and_eq_true,Bool.or_eq_true,Bool.not_eq_true',List.contains_eq_mem]at h4
     refine⟨t,rfl,fun hji htd=>?_,fun hl=>?_⟩
     ·simp_all
     grind
 have hr0:Rel cx T B R M V a w.drew:=⟨hr.size,hr.defers,hr.heap.step (Below.refl _ _).drew,fun t x hx=>(hr.tmp t x hx).stay (hr.heap.keeps (Below.refl _ _).drew) fun _ hg=>hg.mono (Nat.le_refl _)⟩
 have main:∀ (f:Nat) (listed:Array Bool) (T':TL) (B':BL) (M:Nat->Nat) (V:Nat->Value) (a:Act) (w:World),GP m listed=f->MadeInv cx T B ((b,⟨ty,is⟩)::B) R l.toArray n m b es listed T' B'->Rel cx T' B' R M V a w->wpAny P .any l.toArray Q (f+(l.toArray.size-m)) listed a w:=by
  intro f
  induction f with
  | zero=>
   intro listed T' B' M V a w h0 inv hrel
   have hall':=JU h0
   rw[QL h0 hms inv.hd,Nat.zero_add]
   have hb':B'=(b,⟨ty,is⟩)::B:=by rw[inv.bl,if_pos (hall' n hnm')]
   have hsub:=hw T' inv.old fun j o d y hj h1 h2 h3=>inv.new j o d y hj ((hop j).trans h1) h2 h3 (hall' j hj)
   have hrel':Rel cx Tw B' R M V a w:=⟨hrel.size,hrel.defers,hrel.heap,fun t x hx=>by
    obtain⟨x',h1,h2⟩:=hsub.get hx
    exact h2 _ _ _ _ _ (hrel.tmp t x' h1)⟩
   rw[hb']at hrel'
   have hdl:(l.drop m).length=l.toArray.size-m:=by simp
   have:=wpAny_of_seq (md:=.any) (Q':=Q) (l.drop m) m _ a w (fun j=>by grind) (by rw[hdl];exact hseq) (h M V a w hrel')
   grind
  | succ f ih=>
   intro listed T' B' M V a w h0 inv hrel
   rw[show f+1+(l.toArray.size-m)=(f+(l.toArray.size-m))+1 by omega]
   have hex:∃ j,j<m/\listed.getD j false=false:=by
    refine Classical.byContradiction fun hn=>?_
    have:GP m listed=0:=List.countP_eq_zero.2 fun j hj=>by
     grind
    omega
   refine⟨fun hnil=>?_,fun i hi=>?_⟩
   ·exfalso
    obtain⟨j,hj,hjl⟩:=hex
    have key:∀ k,∀ j,j<=k->j<m->listed.getD j false=false->False:=by
     intro k
     induction k with
     | zero=>
      intro j hjk hj hjl
      obtain rfl:j=0:=by omega
      obtain⟨o,ho⟩:∃ o,l[0]?=some o:=⟨_,List.getElem?_eq_getElem (by omega)⟩
      have:0∈Region.ready .any l.toArray listed:=mem_ready.2 ⟨getD_in (by rw[inv.hd.size];simp;omega) hjl,o,(hop 0).trans ho,fun e he hb=>by grind⟩
      grind
     | succ k ihk=>
      intro j hjk hj hjl
      obtain⟨o,ho⟩:∃ o,l[j]?=some o:=⟨_,List.getElem?_eq_getElem (by omega)⟩
      have:j∈Region.ready .any l.toArray listed:=mem_ready.2 ⟨getD_in (by rw[inv.hd.size];simp;omega) hjl,o,(hop j).trans ho,fun e he hb=>by
       grind⟩
      grind
    exact key j j (Nat.le_refl _) hj hjl
   ·obtain⟨hun,o,hio,_⟩:=mem_ready.1 hi
    rw[hop]at hio
    have him:i<m:=by
     rcases Nat.lt_or_ge i m with h | h
     ·exact h
     ·obtain⟨j,hj,hjl⟩:=hex
      exact absurd hi (tail_waits hs hch hms inv.hd _ j rfl hj (getD_in (by grind) hjl) i h)
    obtain⟨hg,_,d,hd,hd2⟩:=hck i o him hio
    have hunf:=getD_both hun
    have hcnt:=QP him hun
    have hinv:=inv.hd.set hi him
    have hsz:i<listed.size:=by rw[inv.hd.size];simp;omega
    have hyl:∃ y,es[i]?=some y:=⟨_,List.getElem?_eq_getElem (by omega)⟩
    obtain⟨y,hy⟩:=hyl
    unfold wpOp
    simp only[hop,hio]
    rw[if_pos (by grind[Region.wanted])]
    refine .inl ?_
    have next:∀ (T'':TL),T''=(d,y)::T' -> ∀ B'',(B''=if(listed.setIfInBounds i true).getD n false=true then(b,⟨ty,is⟩)::B else B)->MadeInv cx T B ((b,⟨ty,is⟩)::B) R l.toArray n m b es (listed.setIfInBounds i true) T'' B'':=fun T'' hT'' B'' hB''=>by
     subst hT''
     refine⟨hinv,hB'',fun t x hx=>?_,fun j oj dj yj hj hjo hjd hjy hjl=>?_,fun hn=>?_⟩
     ·have hne:d≠t:=fun e=>by
       have h1:=List.all_eq_true.1 (List.all_eq_true.1 hdst (t,x) (FC hx)) o (List.mem_of_getElem? ((htk i him).trans hio))
       simp_all
      rw[AX _ _ hne]
      exact inv.old t x hx
     ·rw[hop]at hjo
      by_cases hji:j=i
      ·subst hji
       obtain rfl:oj=o:=Option.some.inj (hjo.symm.trans hio)
       obtain rfl:dj=d:=Option.some.inj (hjd.symm.trans hd)
       obtain rfl:yj=y:=Option.some.inj (hjy.symm.trans hy)
       grind[BG]
      ·obtain⟨t,ht,hne,_⟩:=hd2 j oj hj hjo
       obtain rfl:t=dj:=Option.some.inj (ht.symm.trans hjd)
       rw[AX _ _ (Ne.symm (hne hji))]
       rw[getD_set_ne false (Ne.symm hji)]at hjl
       exact inv.new j oj t yj hj ((hop j).trans hjo) hjd hjy hjl
     ·have hni:i≠n:=fun e=>by simp_all
      rw[getD_set_ne false hni]at hn
      have h1:=List.all_eq_true.1 hnob (y,i) (by
       grind)
      have h2:y.nob b=true:=by
       simp only[Bool.or_eq_true]at h1
       exact h1.resolve_left fun h=>hni (Nat.eq_of_beq_eq_true h)
      have h3:=inv.nob hn
      grind[nobT]
    by_cases hin:i=n
    ·subst hin
     obtain rfl:o=on:=Option.some.inj (hio.symm.trans hon)
     obtain rfl:d=dn:=Option.some.inj (hd.symm.trans hdn)
     obtain rfl:y=.box b 0:=Option.some.inj (hy.symm.trans hen)
     have hBB:B'=B:=by rw[inv.bl,if_neg (by grind)]
     subst hBB
     obtain⟨M',hr'⟩:=hrel.alloc b ty hpn (inv.nob hunf) hBb his (hc w _ M V) (d:=d) (CJ hdn2)
     have:=ih _ _ _ M' V _ _ (by omega) (next _ rfl ((b,⟨ty,is⟩)::B') (by simp_all)) hr'
     cases hii:P.info? ty with
     | none=>grind[C8]
     | some it=>
      cases hzz:it.zero with
      | none=>grind[C8]
      | some z=>
       have hzc:z.cells=zs.toArray:=by
        have:z.cells.toList=zs:=by simpa[C8,hii,hzz]using hz
        rw[<- this]
       simp_all[Oper.wp,execOp,Instr.alloc,zeroValue,typeInfo,newVar,newRow,Oper.upon]
    ·have step:∀ B0,(B0=B\/B0=(b,⟨ty,is⟩)::B)->WalkU P cx B0 R n b 0 (l.take m) T es->LStep P cx B0 R o T' y/\Nat.blt d cx.n=true:=fun B0 _ hWx=>by
      rcases hWx.get i o y ((htk i him).trans hio) hy with⟨h,_⟩ | ⟨d',Tj,e1,e2,e3,e4⟩
      ·grind
      ·obtain rfl:d'=d:=Option.some.inj (e1.symm.trans hd)
       refine⟨e3.more fun t z ht hz=>?_,e2⟩
       rcases e4 t z hz with⟨k,ok,hk,a1,a2,a3⟩ | hz
       ·rw[htk k (by omega)]at a1
        obtain⟨t',ht',_,hwt⟩:=hd2 k ok (by omega) a1
        obtain rfl:t'=t:=Option.some.inj (ht'.symm.trans a2)
        exact inv.new k ok t' z (by omega) ((hop k).trans a1) a2 a3 (OD hi (hwt (EN ht)))
       ·exact inv.old t z hz
     have hgn:(listed.setIfInBounds i true).getD n false=listed.getD n false:=getD_set_ne false hin
     have hst:LStep P cx B' R o T' y/\Nat.blt d cx.n=true:=by
      cases hl:listed.getD n false with
      | true=>
       have:B'=(b,⟨ty,is⟩)::B:=by rw[inv.bl,if_pos hl]
       grind
      | false=>
       have:B'=B:=by rw[inv.bl,if_neg (by grind)]
       grind
     exact I5 hrel hd (CJ hst.2) hst.1 fun a' w' hr'=>ih _ _ _ M V a' w' (by omega) (next _ rfl B' (by rw[hgn];exact inv.bl)) hr'
 refine wp_region_any hm ?_
 have hf:GP m (Array.replicate l.toArray.size false)=m:=by
  unfold GP
  rw[List.countP_eq_length.2 fun j _=>by grind[getD_replicate_false],List.length_range]
 have:=main m (Array.replicate l.toArray.size false) T B M V a w.drew hf ⟨⟨by simp,fun j oj _ hl=>(by rw[getD_replicate_false]at hl;cases hl),fun t _ ht=>getD_in (by simpa using ht) (getD_replicate_false _ _)⟩,by rw[getD_replicate_false];rfl,fun t x h=>h,fun j o d y _ _ _ _ hl=>(by grind[getD_replicate_false]),fun _=>hT⟩ hr0
 rwa [show m+(l.toArray.size-m)=l.toArray.size by omega]at this
end
end
def LOf(e:Ed):Prop:=EF Try.prog [] 9 [.many (ed e)] (.part (.many (ed e)))
theorem OT(l:List (Int×Ed))(x:Int×Ed):(l++[x]).flatMap D3=l.flatMap D3++efd x:=by rw[List.flatMap_append,<- CD];simp
theorem PO(l:List ((Int×Int×Vl)×Ed))(x:(Int×Int×Vl)×Ed):(l++[x]).flatMap B5=l.flatMap B5++esd x:=by rw[List.flatMap_append,<- BJ];simp
theorem PQ(l:List (Vl×Ed))(x:Vl×Ed):(l++[x]).flatMap D4=l.flatMap D4++ekd x:=by rw[List.flatMap_append,<- CG];simp
theorem MA(l:List ((Int×Int×Vl)×Ed))(hl:l.length<=80)(hv:∀ p∈l,VSm 80 p.1.2.2)(ih:∀ p∈l,LOf p.2):EF Try.prog [] 22 [.one (.row 30 l.length (l.flatMap B5))] (.part (.one (.row 30 l.length (l.flatMap B5)))):=by
 refine AH 29 Try.func22 rfl rfl rfl fun w D=>?_
 try refine A2 ?_
 refine A1 (AC rfl rfl rfl rfl rfl .nil) ?_
 try refine A2 ?_
 refine AF ?_
 refine GR 100 rfl rfl rfl rfl sl_42 ap_42 rfl rfl ?_
 refine BY ?_
 refine AD ?_
 try refine A2 ?_
 refine A1 (A9 rfl rfl rfl rfl rfl (A4 rfl rfl rfl (AT rfl (kn rfl) sle_29) (A9 rfl rfl rfl rfl rfl .nil))) ?_
 try refine A2 ?_
 refine BB (ι:={ k:Nat // k<=l.length })
  (fun k=>[(3,.own 100),(7,.part (.one (.row 30 l.length (l.flatMap B5)))),(8,.is (.int .i64 (l.length:Int))),(9,.is (.int .i64 (k.1:Int)))])
  (fun _=>[]) (fun k=>[(100,⟨69,30,k.1,(l.take k.1).flatMap B5,false⟩)]) (fun k=>l.length-k.1) ⟨0,by omega⟩
  (fun K=>AM ⟨s_t,s_t,s_t,s_t,trivial⟩ trivial ⟨rfl,trivial⟩) ?_
 rintro⟨k,hk⟩
 dsimp only at hk ⊢
 try refine A2 ?_
 refine A1 (A4 rfl rfl rfl (A6 rfl (kn rfl) (kn rfl) B7) .nil) ?_
 try refine A2 ?_
 refine AA rfl (fun h=>?_) (fun h=>?_)
 ·have hlt:k<l.length:=by have:=of_decide_eq_true h;omega
  obtain⟨x,hx⟩:∃ x,l[k]?=some x:=⟨_,List.getElem?_eq_getElem hlt⟩
  have htk:l.take (k+1)=l.take k++[x]:=by rw[List.take_add_one,hx];rfl
  have mx:=List.mem_of_getElem? hx
  try refine A2 ?_
  refine AF ?_
  refine AG (AL rfl (kn rfl) (kn rfl) (by omega) hx BK sle_29 esz_29 (BJ x)) ?_
  refine AG (AJ rfl (kn rfl) agg_76 sz_76) ?_
  refine AV 5 [.is (.int .i64 0),.is (.int .i64 0),.is (.int .i64 0),.is (.int .u64 0),.is (.string ⟨#[]⟩),.is (.slice none 0 0),.is (.string ⟨#[]⟩),.is (.slice none 0 0),.is (.slice none 0 0),.is (.int .i64 0),.is (.int .i64 0),.is (.int .u64 0),.is (.string ⟨#[]⟩),.is (.slice none 0 0),.is (.string ⟨#[]⟩),.is (.slice none 0 0),.is (.slice none 0 0),.is (.int .i64 0),.is (.int .u64 0),.is (.string ⟨#[]⟩),.is (.slice none 0 0),.is (.string ⟨#[]⟩),.is (.slice none 0 0),.is (.slice none 0 0),.is (.slice none 0 0),.is (.bool false),.is (.string ⟨#[]⟩),.is (.string ⟨#[]⟩),.is (.slice none 0 0),.is (.slice none 0 0)] rfl rfl rfl rfl zr_76 (fun w D M V=>⟨rfl,fun j x v h1 h2=>AU _ h1 h2 rfl⟩) rfl rfl rfl rfl ?_
  refine AP rfl rfl rfl (kn rfl) rfl (kn rfl) rfl rfl sz_76 ?_
  refine AD ?_
  try refine A2 ?_
  refine CF 13 C5 (by kernel_rfl) (A9 rfl rfl rfl rfl rfl (A4 rfl rfl rfl (A0 rfl (kn rfl) off_76_0) (A4 rfl rfl rfl (A5 rfl (kn rfl) rfl rfl one_3) (A4 rfl rfl rfl (A0 rfl (kn rfl) off_76_1) (A4 rfl rfl rfl (A5 rfl (kn rfl) rfl rfl one_3) (A4 rfl rfl rfl (A0 rfl (kn rfl) off_76_2) (A4 rfl rfl rfl (A7 (ds:=[_,_,_,_,_,_,_]) 7 rfl (kn rfl) rfl rfl agg_27 sz_27 rfl) (A4 rfl rfl rfl (AE rfl (by kernel_rfl) (MY x.1.2.2 ((hv x mx).le (by decide))) ⟨(kn rfl),trivial⟩) (A4 rfl rfl rfl (A0 rfl (kn rfl) off_76_3) (A4 rfl rfl rfl (A7 (ds:=[_,_,_,_,_,_,_,_,_,_,_,_,_,_,_,_,_,_,_,_,_]) 21 rfl (kn rfl) rfl rfl agg_32 sz_32 rfl) (A4 rfl rfl rfl (AE rfl (by kernel_rfl) (ih x mx) ⟨(kn rfl),trivial⟩) (A4 rfl rfl rfl (BV (ds:=[_,_,_,_,_,_,_,_,_,_,_,_,_,_,_,_,_,_,_,_,_,_,_,_,_,_,_,_,_,_]) [(0,_),(1,_),(2,_),(3,_)] rfl ⟨rfl,(kn rfl),⟨rfl,(kn rfl),⟨rfl,(kn rfl),⟨rfl,(kn rfl),trivial⟩⟩⟩⟩ rfl pl_69 zr_69 (fun w D=>.cons (.cell _) (.cons (.cell _) (.cons (.cell _) (.cons (.cell _) (.cons (.cell _) (.cons (.cell _) (.cons (.cell _) (.cons (.cell _) (.cons (.cell _) (.cons (.cell _) (.cons (.cell _) (.cons (.cell _) (.cons (.cell _) (.cons (.cell _) (.cons (.cell _) (.cons (.cell _) (.cons (.cell _) (.cons (.cell _) (.cons (.cell _) (.cons (.cell _) (.cons (.cell _) (.cons (.cell _) (.cons (.cell _) (.cons (.cell _) (.cons (.cell _) (.cons (.cell _) (.cons (.cell _) (.cons (.cell _) (.cons (.cell _) (.cons (.cell _) (.nil _ _))))))))))))))))))))))))))))))) rfl) (A4 rfl rfl rfl (B2 (ds:=[_,_,_,_,_,_,_,_,_,_,_,_,_,_,_,_,_,_,_,_,_,_,_,_,_,_,_,_,_,_]) [(0,_)] rfl ⟨rfl,(kn rfl),trivial⟩ rfl sl_42 sz_69 zr_69 (fun w D=>.cons (.cell _) (.cons (.cell _) (.cons (.cell _) (.cons (.cell _) (.cons (.cell _) (.cons (.cell _) (.cons (.cell _) (.cons (.cell _) (.cons (.cell _) (.cons (.cell _) (.cons (.cell _) (.cons (.cell _) (.cons (.cell _) (.cons (.cell _) (.cons (.cell _) (.cons (.cell _) (.cons (.cell _) (.cons (.cell _) (.cons (.cell _) (.cons (.cell _) (.cons (.cell _) (.cons (.cell _) (.cons (.cell _) (.cons (.cell _) (.cons (.cell _) (.cons (.cell _) (.cons (.cell _) (.cons (.cell _) (.cons (.cell _) (.cons (.cell _) (.nil _ _))))))))))))))))))))))))))))))) rfl rfl rfl rfl rfl) .nil))))))))))))) ?_
  refine BP rfl rfl rfl rfl (kn rfl) rfl (kn rfl) sl_42 ap_42 rfl rfl (by first | omega | (dsimp only;omega)) (by first | omega | (dsimp only;omega)) ?_
  refine BY ?_
  refine AD ?_
  try refine A2 ?_
  refine A1 (A4 rfl rfl rfl (A6 rfl (kn rfl) (kn rfl) (AS (by first | omega | (dsimp only;omega)))) (A9 rfl rfl rfl rfl rfl .nil)) ?_
  try refine A2 ?_
  refine AR ⟨k+1,by omega⟩ (by dsimp only;omega) (fun K=>AM ⟨s_t,s_t,s_t,s_t,trivial⟩ trivial ⟨DK rfl rfl (by rw[htk,PO];rfl),trivial⟩)
 obtain rfl:k=l.length:=by have:=of_decide_eq_false h;omega
 rw[List.take_length]
 try refine A2 ?_
 refine BU 3 100 rfl rfl rfl ?_
 refine A1 (A9 rfl rfl rfl rfl rfl (AC rfl rfl rfl rfl rfl .nil)) ?_
 try refine A2 ?_
 exact A8 rfl rfl (.tmp (kn rfl) (.nil)) (Imp.of_eq rfl) rfl
abbrev X3(e:Ed):BL:=[(1,⟨32,bcs (ed e)⟩),(2,⟨45,.is (.int .i64 0)::(zB++(zB++[.is (.slice none 0 0),.is (.bool false),.is (.string ⟨#[]⟩),.is (.string ⟨#[]⟩),.is (.slice none 0 0),.is (.slice none 0 0)]))⟩),
 (3,⟨45,.is (.int .i64 e.kind)::(bcs (vd e.old)++(bcs (vd e.new)++[.own 100,.is (.bool e.rests),.is (.string (str e.ro)),.is (.string (str e.rn)),.part (.one (.row 30 e.steps.length (e.steps.flatMap B5))),.own 101]))⟩)]
abbrev X5(e:Ed)(f k:Nat):RL:=[(100,⟨63,22,f,(e.fields.take f).flatMap D3,false⟩),(101,⟨67,28,k,(e.keys.take k).flatMap D4,false⟩)]
set_option maxHeartbeats 4000000 in
theorem UB(e:Ed)(hs:e.Sm)(ih:∀ x∈e.kids,LOf x):LOf e:=by
 unfold LOf
 have hl:=hs.lens
 obtain⟨k1,o1,o2,r1,r2,_,h3,h4⟩:=hs.ok.all
 refine AH 66 Try.func9 rfl rfl rfl fun w D=>?_
 try refine A2 ?_
 refine AF ?_
 refine BX 1 rfl rfl rfl rfl (kn rfl) rfl rfl rfl rfl ?_
 refine AV 2 [.is (.int .i64 0),.is (.int .i64 0),.is (.int .u64 0),.is (.string ⟨#[]⟩),.is (.slice none 0 0),.is (.string ⟨#[]⟩),.is (.slice none 0 0),.is (.slice none 0 0),.is (.int .i64 0),.is (.int .u64 0),.is (.string ⟨#[]⟩),.is (.slice none 0 0),.is (.string ⟨#[]⟩),.is (.slice none 0 0),.is (.slice none 0 0),.is (.slice none 0 0),.is (.bool false),.is (.string ⟨#[]⟩),.is (.string ⟨#[]⟩),.is (.slice none 0 0),.is (.slice none 0 0)] rfl rfl rfl rfl zr_45 (fun w D M V=>⟨rfl,fun j x v h1 h2=>AU _ h1 h2 rfl⟩) rfl rfl rfl rfl ?_
 refine AD ?_
 try refine A2 ?_
 refine AM (T':=[(1,.box 1 0),(2,.box 2 0)]) (R':=[]) (B':=[(1,⟨32,bcs (ed e)⟩),(2,⟨45,.is (.int .i64 0)::(zB++(zB++[.is (.slice none 0 0),.is (.bool false),.is (.string ⟨#[]⟩),.is (.string ⟨#[]⟩),.is (.slice none 0 0),.is (.slice none 0 0)]))⟩)]) ⟨s_t,s_t,trivial⟩ ⟨s_b,s_b,trivial⟩ trivial ?_
 refine RC (n:=18) (m:=19) (b:=3) (is:=[.is (.int .i64 0),.is (.int .i64 0),.is (.int .u64 0),.is (.string ⟨#[]⟩),.is (.slice none 0 0),.is (.string ⟨#[]⟩),.is (.slice none 0 0),.is (.slice none 0 0),.is (.int .i64 0),.is (.int .u64 0),.is (.string ⟨#[]⟩),.is (.slice none 0 0),.is (.string ⟨#[]⟩),.is (.slice none 0 0),.is (.slice none 0 0),.is (.slice none 0 0),.is (.bool false),.is (.string ⟨#[]⟩),.is (.string ⟨#[]⟩),.is (.slice none 0 0),.is (.slice none 0 0)]) [(25,_),(3,_),(1,_),(2,_)] C5 (by kernel_rfl) rfl rfl rfl rfl rfl zr_45 (fun w D M V=>⟨rfl,fun j x v h1 h2=>AU _ h1 h2 rfl⟩) rfl rfl rfl rfl rfl (.op rfl rfl (A0 rfl (kn rfl) off_32_0) (.op rfl rfl (A5 rfl (kn rfl) rfl rfl one_3) (.op rfl rfl (A0 rfl (kn rfl) off_32_1) (.op rfl rfl (A7 (ds:=[_,_,_,_,_,_,_]) 7 rfl (kn rfl) rfl rfl agg_27 sz_27 rfl) (.op rfl rfl (AE rfl (by kernel_rfl) (MY e.old (o1.le (by decide))) ⟨(kn rfl),trivial⟩) (.op rfl rfl (A0 rfl (kn rfl) off_32_2) (.op rfl rfl (A7 (ds:=[_,_,_,_,_,_,_]) 7 rfl (kn rfl) rfl rfl agg_27 sz_27 rfl) (.op rfl rfl (AE rfl (by kernel_rfl) (MY e.new (o2.le (by decide))) ⟨(kn rfl),trivial⟩) (.op rfl rfl (A0 rfl (kn rfl) off_32_4) (.op rfl rfl (A5 rfl (kn rfl) rfl rfl one_4) (.op rfl rfl (A0 rfl (kn rfl) off_32_5) (.op rfl rfl (A5 rfl (kn rfl) rfl rfl one_9) (.op rfl rfl (A0 rfl (kn rfl) off_32_6) (.op rfl rfl (A5 rfl (kn rfl) rfl rfl one_9) (.op rfl rfl (A0 rfl (kn rfl) off_32_7) (.op rfl rfl (A5 rfl (kn rfl) rfl rfl one_29) (.op rfl rfl (AE rfl (by kernel_rfl) (MA e.steps (by omega) (fun p hp=>(h3 p hp).2.2.2) (fun p hp=>ih _ (Ed.kid_s hp))) ⟨(kn rfl),trivial⟩) (.op rfl rfl (BV (ds:=[_,_,_,_,_,_,_,_,_,_,_,_,_,_,_,_,_,_,_,_,_]) [(0,_),(1,_),(2,_),(4,_),(5,_),(6,_),(7,_)] rfl ⟨rfl,(kn rfl),⟨rfl,(kn rfl),⟨rfl,(kn rfl),⟨rfl,(kn rfl),⟨rfl,(kn rfl),⟨rfl,(kn rfl),⟨rfl,(kn rfl),trivial⟩⟩⟩⟩⟩⟩⟩ rfl pl_45 zr_45 (fun w D=>.cons (.cell _) (.cons (.cell _) (.cons (.cell _) (.cons (.cell _) (.cons (.cell _) (.cons (.cell _) (.cons (.cell _) (.cons (.cell _) (.cons (.cell _) (.cons (.cell _) (.cons (.cell _) (.cons (.cell _) (.cons (.cell _) (.cons (.cell _) (.cons (.cell _) (.cons (.cell _) (.cons (.cell _) (.cons (.cell _) (.cons (.cell _) (.cons (.cell _) (.cons (.cell _) (.nil _ _)))))))))))))))))))))) rfl) (.new rfl rfl (.nil)))))))))))))))))))) (.op rfl rfl (A0 rfl (kn rfl) off_32_0) (.op rfl rfl (A5 rfl (kn rfl) rfl rfl one_3) (.op rfl rfl (A0 rfl (kn rfl) off_32_1) (.op rfl rfl (A7 (ds:=[_,_,_,_,_,_,_]) 7 rfl (kn rfl) rfl rfl agg_27 sz_27 rfl) (.op rfl rfl (AE rfl (by kernel_rfl) (MY e.old (o1.le (by decide))) ⟨(kn rfl),trivial⟩) (.op rfl rfl (A0 rfl (kn rfl) off_32_2) (.op rfl rfl (A7 (ds:=[_,_,_,_,_,_,_]) 7 rfl (kn rfl) rfl rfl agg_27 sz_27 rfl) (.op rfl rfl (AE rfl (by kernel_rfl) (MY e.new (o2.le (by decide))) ⟨(kn rfl),trivial⟩) (.op rfl rfl (A0 rfl (kn rfl) off_32_4) (.op rfl rfl (A5 rfl (kn rfl) rfl rfl one_4) (.op rfl rfl (A0 rfl (kn rfl) off_32_5) (.op rfl rfl (A5 rfl (kn rfl) rfl rfl one_9) (.op rfl rfl (A0 rfl (kn rfl) off_32_6) (.op rfl rfl (A5 rfl (kn rfl) rfl rfl one_9) (.op rfl rfl (A0 rfl (kn rfl) off_32_7) (.op rfl rfl (A5 rfl (kn rfl) rfl rfl one_29) (.op rfl rfl (AE rfl (by kernel_rfl) (MA e.steps (by omega) (fun p hp=>(h3 p hp).2.2.2) (fun p hp=>ih _ (Ed.kid_s hp))) ⟨(kn rfl),trivial⟩) (.op rfl rfl (BV (ds:=[_,_,_,_,_,_,_,_,_,_,_,_,_,_,_,_,_,_,_,_,_]) [(0,_),(1,_),(2,_),(4,_),(5,_),(6,_),(7,_)] rfl ⟨rfl,(kn rfl),⟨rfl,(kn rfl),⟨rfl,(kn rfl),⟨rfl,(kn rfl),⟨rfl,(kn rfl),⟨rfl,(kn rfl),⟨rfl,(kn rfl),trivial⟩⟩⟩⟩⟩⟩⟩ rfl pl_45 zr_45 (fun w D=>.cons (.cell _) (.cons (.cell _) (.cons (.cell _) (.cons (.cell _) (.cons (.cell _) (.cons (.cell _) (.cons (.cell _) (.cons (.cell _) (.cons (.cell _) (.cons (.cell _) (.cons (.cell _) (.cons (.cell _) (.cons (.cell _) (.cons (.cell _) (.cons (.cell _) (.cons (.cell _) (.cons (.cell _) (.cons (.cell _) (.cons (.cell _) (.cons (.cell _) (.cons (.cell _) (.nil _ _)))))))))))))))))))))) rfl) (.new rfl rfl (.nil)))))))))))))))))))) rfl rfl (fun T h1 h2=>⟨⟨_,h2 17 _ _ _ (by decide) rfl rfl rfl,Imp.refl _⟩,⟨_,h2 18 _ _ _ (by decide) rfl rfl rfl,Imp.refl _⟩,⟨_,h1 1 _ rfl,Imp.refl _⟩,⟨_,h1 2 _ rfl,Imp.refl _⟩,trivial⟩) ?_
 refine AP rfl rfl rfl (kn rfl) rfl (kn rfl) rfl rfl sz_45 ?_
 refine AD ?_
 try refine A2 ?_
 refine DT 3 15 100 63 22 rfl rfl rfl rfl rfl ?_
 refine DT 3 20 101 67 28 rfl rfl rfl rfl rfl ?_
 refine A1 (A4 rfl rfl rfl (A0 rfl (kn rfl) off_32_3) (A4 rfl rfl rfl (A5 rfl (kn rfl) rfl rfl one_28) (A4 rfl rfl rfl (AT rfl (kn rfl) sle_28) (A9 rfl rfl rfl rfl rfl .nil)))) ?_
 try refine A2 ?_
 refine BB (ι:={ k:Nat // k<=e.fields.length })
  (fun k=>[(1,.box 1 0),(2,.box 2 0),(3,.box 3 0),(27,.part (.one (.row 22 e.fields.length (e.fields.flatMap D3)))),(28,.is (.int .i64 (e.fields.length:Int))),(29,.is (.int .i64 (k.1:Int)))])
  (fun _=>X3 e) (fun k=>X5 e k.1 0) (fun k=>e.fields.length-k.1) ⟨0,by omega⟩
  (fun K=>AM ⟨s_t,s_t,s_t,s_t,s_t,s_t,trivial⟩ ⟨s_b,s_b,s_b,trivial⟩ ⟨rfl,rfl,trivial⟩) ?_
 rintro⟨k,hk⟩
 dsimp only at hk ⊢
 try refine A2 ?_
 refine A1 (A4 rfl rfl rfl (A6 rfl (kn rfl) (kn rfl) B7) .nil) ?_
 try refine A2 ?_
 refine AA rfl (fun h=>?_) (fun h=>?_)
 ·have hlt:k<e.fields.length:=by have:=of_decide_eq_true h;omega
  obtain⟨x,hx⟩:∃ x,e.fields[k]?=some x:=⟨_,List.getElem?_eq_getElem hlt⟩
  have htk:e.fields.take (k+1)=e.fields.take k++[x]:=by rw[List.take_add_one,hx];rfl
  try refine A2 ?_
  refine AF ?_
  refine AG (AL rfl (kn rfl) (kn rfl) (by omega) hx CO sle_28 esz_28 (CD x)) ?_
  refine AG (AJ rfl (kn rfl) agg_61 sz_61) ?_
  refine AV 5 [.is (.int .i64 0),.is (.int .i64 0),.is (.int .i64 0),.is (.int .u64 0),.is (.string ⟨#[]⟩),.is (.slice none 0 0),.is (.string ⟨#[]⟩),.is (.slice none 0 0),.is (.slice none 0 0),.is (.int .i64 0),.is (.int .u64 0),.is (.string ⟨#[]⟩),.is (.slice none 0 0),.is (.string ⟨#[]⟩),.is (.slice none 0 0),.is (.slice none 0 0),.is (.slice none 0 0),.is (.bool false),.is (.string ⟨#[]⟩),.is (.string ⟨#[]⟩),.is (.slice none 0 0),.is (.slice none 0 0)] rfl rfl rfl rfl zr_61 (fun w D M V=>⟨rfl,fun j x v h1 h2=>AU _ h1 h2 rfl⟩) rfl rfl rfl rfl ?_
  refine AP rfl rfl rfl (kn rfl) rfl (kn rfl) rfl rfl sz_61 ?_
  refine AD ?_
  try refine A2 ?_
  refine CF 9 C5 (by kernel_rfl) (A4 rfl rfl rfl (A0 rfl (kn rfl) off_45_3) (A4 rfl rfl rfl (A5 rfl (kn rfl) rfl rfl one_41) (A4 rfl rfl rfl (A0 rfl (kn rfl) off_61_0) (A4 rfl rfl rfl (A5 rfl (kn rfl) rfl rfl one_3) (A4 rfl rfl rfl (A0 rfl (kn rfl) off_61_1) (A4 rfl rfl rfl (A7 (ds:=[_,_,_,_,_,_,_,_,_,_,_,_,_,_,_,_,_,_,_,_,_]) 21 rfl (kn rfl) rfl rfl agg_32 sz_32 rfl) (A4 rfl rfl rfl (AE rfl (by kernel_rfl) (ih x.2 (Ed.kid_f (List.mem_of_getElem? hx))) ⟨(kn rfl),trivial⟩) (A4 rfl rfl rfl (BV (ds:=[_,_,_,_,_,_,_,_,_,_,_,_,_,_,_,_,_,_,_,_,_,_]) [(0,_),(1,_)] rfl ⟨rfl,(kn rfl),⟨rfl,(kn rfl),trivial⟩⟩ rfl pl_63 zr_63 (fun w D=>.cons (.cell _) (.cons (.cell _) (.cons (.cell _) (.cons (.cell _) (.cons (.cell _) (.cons (.cell _) (.cons (.cell _) (.cons (.cell _) (.cons (.cell _) (.cons (.cell _) (.cons (.cell _) (.cons (.cell _) (.cons (.cell _) (.cons (.cell _) (.cons (.cell _) (.cons (.cell _) (.cons (.cell _) (.cons (.cell _) (.cons (.cell _) (.cons (.cell _) (.cons (.cell _) (.cons (.cell _) (.nil _ _))))))))))))))))))))))) rfl) (A4 rfl rfl rfl (B2 (ds:=[_,_,_,_,_,_,_,_,_,_,_,_,_,_,_,_,_,_,_,_,_,_]) [(0,_)] rfl ⟨rfl,(kn rfl),trivial⟩ rfl sl_41 sz_63 zr_63 (fun w D=>.cons (.cell _) (.cons (.cell _) (.cons (.cell _) (.cons (.cell _) (.cons (.cell _) (.cons (.cell _) (.cons (.cell _) (.cons (.cell _) (.cons (.cell _) (.cons (.cell _) (.cons (.cell _) (.cons (.cell _) (.cons (.cell _) (.cons (.cell _) (.cons (.cell _) (.cons (.cell _) (.cons (.cell _) (.cons (.cell _) (.cons (.cell _) (.cons (.cell _) (.cons (.cell _) (.cons (.cell _) (.nil _ _))))))))))))))))))))))) rfl rfl rfl rfl rfl) .nil))))))))) ?_
  refine BP rfl rfl rfl rfl (kn rfl) rfl (kn rfl) sl_41 ap_41 rfl rfl (by first | omega | (dsimp only;omega)) (by first | omega | (dsimp only;omega)) ?_
  refine AG (A0 rfl (kn rfl) off_45_3) ?_
  refine D6 rfl rfl rfl (kn rfl) rfl (kn rfl) rfl rfl sz_41 rfl ?_
  refine AD ?_
  try refine A2 ?_
  refine A1 (A4 rfl rfl rfl (A6 rfl (kn rfl) (kn rfl) (AS (by first | omega | (dsimp only;omega)))) (A9 rfl rfl rfl rfl rfl .nil)) ?_
  try refine A2 ?_
  refine AR ⟨k+1,by omega⟩ (by dsimp only;omega) (fun K=>AM ⟨s_t,s_t,s_t,s_t,s_t,s_t,trivial⟩ ⟨s_b,s_b,s_b,trivial⟩ ⟨DK rfl rfl (by rw[htk,OT];rfl),rfl,trivial⟩)
 obtain rfl:k=e.fields.length:=by have:=of_decide_eq_false h;omega
 try refine A2 ?_
 refine A1 (A4 rfl rfl rfl (A0 rfl (kn rfl) off_32_8) (A4 rfl rfl rfl (A5 rfl (kn rfl) rfl rfl one_30) (A4 rfl rfl rfl (AT rfl (kn rfl) sle_30) (A9 rfl rfl rfl rfl rfl .nil)))) ?_
 try refine A2 ?_
 refine BB (ι:={ k:Nat // k<=e.keys.length })
  (fun k=>[(1,.box 1 0),(2,.box 2 0),(3,.box 3 0),(46,.part (.one (.row 28 e.keys.length (e.keys.flatMap D4)))),(47,.is (.int .i64 (e.keys.length:Int))),(48,.is (.int .i64 (k.1:Int)))])
  (fun _=>X3 e) (fun k=>X5 e e.fields.length k.1) (fun k=>e.keys.length-k.1) ⟨0,by omega⟩
  (fun K=>AM ⟨s_t,s_t,s_t,s_t,s_t,s_t,trivial⟩ ⟨s_b,s_b,s_b,trivial⟩ ⟨rfl,rfl,trivial⟩) ?_
 rintro⟨k,hk⟩
 dsimp only at hk ⊢
 try refine A2 ?_
 refine A1 (A4 rfl rfl rfl (A6 rfl (kn rfl) (kn rfl) B7) .nil) ?_
 try refine A2 ?_
 refine AA rfl (fun h=>?_) (fun h=>?_)
 ·have hlt:k<e.keys.length:=by have:=of_decide_eq_true h;omega
  obtain⟨x,hx⟩:∃ x,e.keys[k]?=some x:=⟨_,List.getElem?_eq_getElem hlt⟩
  have htk:e.keys.take (k+1)=e.keys.take k++[x]:=by rw[List.take_add_one,hx];rfl
  have mx:=List.mem_of_getElem? hx
  try refine A2 ?_
  refine AF ?_
  refine AG (AL rfl (kn rfl) (kn rfl) (by omega) hx CM sle_30 esz_30 (CG x)) ?_
  refine AG (AJ rfl (kn rfl) agg_65 sz_65) ?_
  refine AV 7 [.is (.int .i64 0),.is (.int .u64 0),.is (.string ⟨#[]⟩),.is (.slice none 0 0),.is (.string ⟨#[]⟩),.is (.slice none 0 0),.is (.slice none 0 0),.is (.int .i64 0),.is (.int .i64 0),.is (.int .u64 0),.is (.string ⟨#[]⟩),.is (.slice none 0 0),.is (.string ⟨#[]⟩),.is (.slice none 0 0),.is (.slice none 0 0),.is (.int .i64 0),.is (.int .u64 0),.is (.string ⟨#[]⟩),.is (.slice none 0 0),.is (.string ⟨#[]⟩),.is (.slice none 0 0),.is (.slice none 0 0),.is (.slice none 0 0),.is (.bool false),.is (.string ⟨#[]⟩),.is (.string ⟨#[]⟩),.is (.slice none 0 0),.is (.slice none 0 0)] rfl rfl rfl rfl zr_65 (fun w D M V=>⟨rfl,fun j x v h1 h2=>AU _ h1 h2 rfl⟩) rfl rfl rfl rfl ?_
  refine AP rfl rfl rfl (kn rfl) rfl (kn rfl) rfl rfl sz_65 ?_
  refine AD ?_
  try refine A2 ?_
  refine CF 10 C5 (by kernel_rfl) (A4 rfl rfl rfl (A0 rfl (kn rfl) off_45_8) (A4 rfl rfl rfl (A5 rfl (kn rfl) rfl rfl one_43) (A4 rfl rfl rfl (A0 rfl (kn rfl) off_65_0) (A4 rfl rfl rfl (A7 (ds:=[_,_,_,_,_,_,_]) 7 rfl (kn rfl) rfl rfl agg_27 sz_27 rfl) (A4 rfl rfl rfl (AE rfl (by kernel_rfl) (MY x.1 ((h4 x mx).le (by decide))) ⟨(kn rfl),trivial⟩) (A4 rfl rfl rfl (A0 rfl (kn rfl) off_65_1) (A4 rfl rfl rfl (A7 (ds:=[_,_,_,_,_,_,_,_,_,_,_,_,_,_,_,_,_,_,_,_,_]) 21 rfl (kn rfl) rfl rfl agg_32 sz_32 rfl) (A4 rfl rfl rfl (AE rfl (by kernel_rfl) (ih x.2 (Ed.kid_k mx)) ⟨(kn rfl),trivial⟩) (A4 rfl rfl rfl (BV (ds:=[_,_,_,_,_,_,_,_,_,_,_,_,_,_,_,_,_,_,_,_,_,_,_,_,_,_,_,_]) [(0,_),(1,_)] rfl ⟨rfl,(kn rfl),⟨rfl,(kn rfl),trivial⟩⟩ rfl pl_67 zr_67 (fun w D=>.cons (.cell _) (.cons (.cell _) (.cons (.cell _) (.cons (.cell _) (.cons (.cell _) (.cons (.cell _) (.cons (.cell _) (.cons (.cell _) (.cons (.cell _) (.cons (.cell _) (.cons (.cell _) (.cons (.cell _) (.cons (.cell _) (.cons (.cell _) (.cons (.cell _) (.cons (.cell _) (.cons (.cell _) (.cons (.cell _) (.cons (.cell _) (.cons (.cell _) (.cons (.cell _) (.cons (.cell _) (.cons (.cell _) (.cons (.cell _) (.cons (.cell _) (.cons (.cell _) (.cons (.cell _) (.cons (.cell _) (.nil _ _))))))))))))))))))))))))))))) rfl) (A4 rfl rfl rfl (B2 (ds:=[_,_,_,_,_,_,_,_,_,_,_,_,_,_,_,_,_,_,_,_,_,_,_,_,_,_,_,_]) [(0,_)] rfl ⟨rfl,(kn rfl),trivial⟩ rfl sl_43 sz_67 zr_67 (fun w D=>.cons (.cell _) (.cons (.cell _) (.cons (.cell _) (.cons (.cell _) (.cons (.cell _) (.cons (.cell _) (.cons (.cell _) (.cons (.cell _) (.cons (.cell _) (.cons (.cell _) (.cons (.cell _) (.cons (.cell _) (.cons (.cell _) (.cons (.cell _) (.cons (.cell _) (.cons (.cell _) (.cons (.cell _) (.cons (.cell _) (.cons (.cell _) (.cons (.cell _) (.cons (.cell _) (.cons (.cell _) (.cons (.cell _) (.cons (.cell _) (.cons (.cell _) (.cons (.cell _) (.cons (.cell _) (.cons (.cell _) (.nil _ _))))))))))))))))))))))))))))) rfl rfl rfl rfl rfl) .nil)))))))))) ?_
  refine BP rfl rfl rfl rfl (kn rfl) rfl (kn rfl) sl_43 ap_43 rfl rfl (by first | omega | (dsimp only;omega)) (by first | omega | (dsimp only;omega)) ?_
  refine AG (A0 rfl (kn rfl) off_45_8) ?_
  refine D6 rfl rfl rfl (kn rfl) rfl (kn rfl) rfl rfl sz_43 rfl ?_
  refine AD ?_
  try refine A2 ?_
  refine A1 (A4 rfl rfl rfl (A6 rfl (kn rfl) (kn rfl) (AS (by first | omega | (dsimp only;omega)))) (A9 rfl rfl rfl rfl rfl .nil)) ?_
  try refine A2 ?_
  refine AR ⟨k+1,by omega⟩ (by dsimp only;omega) (fun K=>AM ⟨s_t,s_t,s_t,s_t,s_t,s_t,trivial⟩ ⟨s_b,s_b,s_b,trivial⟩ ⟨rfl,DK rfl rfl (by rw[htk,PQ];rfl),trivial⟩)
 obtain rfl:k=e.keys.length:=by have:=of_decide_eq_false h;omega
 try refine A2 ?_
 refine CI 3 15 100 rfl rfl rfl rfl rfl ?_
 refine CI 3 20 101 rfl rfl rfl rfl rfl ?_
 dsimp only
 rw[List.take_length,List.take_length]
 refine AF ?_
 refine AG (A7 (ds:=[_,_,_,_,_,_,_,_,_,_,_,_,_,_,_,_,_,_,_,_,_]) 21 rfl (kn rfl) rfl rfl agg_45 sz_45 rfl) ?_
 refine AP rfl rfl rfl (kn rfl) rfl (kn rfl) rfl rfl sz_45 ?_
 refine AD ?_
 try refine A2 ?_
 exact A8 rfl rfl (.cell rfl rfl rfl agg_45 sz_45 rfl (.nil)) (Imp.of_eq rfl) rfl
theorem N8(e:Ed):e.Sm->LOf e:=Ed.kids_ind (P:=fun e=>e.Sm->LOf e) (fun e ih h=>UB e h fun x hx=>ih x hx (h.kid hx)) e
end Go.Proofs.Ytecfdcdkkgmkpaa
