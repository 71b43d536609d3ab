/- Part 12. Conditions: as each theorem says. -/
import Derived.Test.YtgcphgdkddihcaaGreatDoorSR11
set_option maxRecDepth 100000
namespace Go.Proofs.YtgcphgdkddihcaaGreatDoor
open Go.RowKit
section
def cellD:Dat->Dat
 | .orow _ _ _ v _=>.cell v
 | .optr _ v _=>.cell v
 | d=>d
theorem KidFit.cellD{w:World}{D:Nat->Prop}{d:Dat}{x:Value}(h:KidFit w D d x):Lies w D (cellD d) x:=by
 cases d with
 | orow ty k n v es=>obtain⟨rfl,_⟩:=h;exact .cell _
 | optr ty v es=>obtain⟨rfl,_⟩:=h;exact .cell _
 | cell v=>exact h
 | row k n ds=>exact h
 | ptr t ds=>exact h
 | ifc t d=>exact h
 | map n ds=>exact h
 | fn f ds=>exact h
 | pref ds=>exact h
theorem Lies.kid{w:World}{D:Nat->Prop}{d:Dat}{x:Value}(h:Lies w D d x):KidFit w D d x/\kidBlk d=Option.none:=by
 cases d with
 | orow=>cases h
 | optr=>cases h
 | _=>exact⟨h,rfl⟩
theorem Q4N{e:TypeId}(h:Nat.blt e 2000000=false):Nat.blt e 1000000=false:=by
 cases h2:Nat.blt e 1000000
 ·rfl
 ·rw[DH h2]at h;cases h
theorem Gx.tree{w:World}{D:Nat->Prop}{base e k n:Nat}{v:Value}{ds:List Dat}(h:Gx w D base e k v n ds)(ht:Nat.blt e 2000000=false):
  ∃ xs,w.ownsRow base (e-2000000) k v n xs/\(ds.length=xs.length /\ ∀ (j:Nat) d x,ds[j]?=some d->xs[j]?=some x->KidFit w D d x)/\KApart v ds:=by
 obtain⟨xs,h1,h2⟩:=h
 rcases h2 with⟨h2,_⟩ | ⟨_,h2,h3⟩
 ·rw[ht]at h2;cases h2
 ·refine⟨xs,?_,h2,h3⟩
  rcases h1 with⟨h1,_⟩ | ⟨⟨_,h1⟩,_⟩ | ⟨_,h1⟩
  ·rw[Q4N ht]at h1;cases h1
  ·rw[ht]at h1;cases h1
  ·exact h1
theorem Q0D{w:World}{D:Nat->Prop}{ds:List Dat}{xs:List Value}(h:ds.length=xs.length /\ ∀ (j:Nat) d x,ds[j]?=some d->xs[j]?=some x->KidFit w D d x):Fits w D (ds.map cellD) xs:=by
 refine⟨by simpa using h.1,fun j d x hd hx=>?_⟩
 rw[List.getElem?_map,Option.map_eq_some_iff]at hd
 obtain⟨d0,hd0,rfl⟩:=hd
 exact(h.2 j d0 x hd0 hx).cellD
variable{P:Program}{cx:Cx}{T:TL}{B:BL}{R:RL}{M:Nat->Nat}{V:Nat->Value}{o:Oper}{ops:Array Oper}{Q:Exit->Act->World->Prop}{l:List Oper}
theorem ZC{K:Act->World->Prop}(b j r ty k:Nat){bx:Bx}{is:List IV}(hb:lk b B=some bx)(hj:bx.cs[j]?=some (.is (.slice none 0 0)))(his:bx.cs.set j (.own r)=is)(hT:Q1d r T=true)(hB:Q0E r B=true)(h:E cx T ((b,⟨bx.ty,is⟩)::B) ((r,⟨ty,k,0,[],false⟩)::R) K)(hty:Nat.blt ty 2000000=false:=by rfl):E cx T B R K:=fun M V a w hr=>by
 obtain⟨V',h1,h2⟩:=hr.row_new r ty k hT hB (.inr hty)
 obtain⟨_,cs,a2,a3⟩:=h2.heap.box b bx hb
 refine h M V' a w (h2.set hb a2 (fun _ _=>rfl) rfl rfl rfl rfl ⟨by rw[<- his];simp[a3.1],fun i z u hz hu=>?_⟩)
 rw[<- his,List.getElem?_set]at hz
 split at hz
 ·rename_i hij
  subst hij
  split at hz
  ·obtain rfl:IV.own r=z:=by simpa using hz
   have:=a3.2 j _ u hj hu
   refine⟨?_,this.2⟩
   show _=V' r
   rw[h1]
   exact this.1.is_eq
  ·cases hz
 ·exact a3.2 i z u hz hu
theorem HR.tree_slice{w:World}(hh:HR cx B R M V w){r ty k n:Nat}{ds:List Dat}(hr:lk r R=some ⟨ty,k,n,ds,false⟩)(hty:Nat.blt ty 2000000=false):∃ p cap,V r=.slice p n cap/\n<=cap/\(0<n -> ∃ g,p=some ⟨g,0,none⟩):=by
 obtain⟨xs,hown,_,_⟩:=Gx.tree (show Gx w (Dc cx B R M V w) 0 ty k (V r) n ds from hh.row r _ hr) hty
 rcases hown.2 with⟨h1,h2⟩ | ⟨g,cap,cur,h1,_,_,h2,_⟩
 ·exact⟨none,0,by rw[h1,h2],by omega,fun h=>by omega⟩
 ·exact⟨_,cap,h1,h2,fun _=>⟨g,rfl⟩⟩
theorem Z0{x i:Operand}{t:TypeId}{r ty k n:Nat}{ds:List Dat}{kk:IntKind}{z:Int}(ho:o.op=.indexAddr t x i)(hx:Kn T x (.own r))(hr:lk r R=some ⟨ty,k,n,ds,false⟩)(hi:Kn T i (.is (.int kk z)))(hz:0<=z/\z<(n:Int))(ht:P.underlying t=some (.slice (P.elem t)))(hs:sizeT P (P.elem t)=some k)(hty:Nat.blt ty 2000000=false:=by rfl):
  LStep P cx B R o T (.via r (AtV (z.toNat*k))):=LStep.same fun M V w a hh hk=>by
 have h1:a.eval x=V r:=hk x _ (by simp[ho,Op.operands]) hx
 have h2:=(hk i _ (by simp[ho,Op.operands]) hi).is_eq
 obtain⟨p,cap,hVr,_,hp⟩:=hh.tree_slice hr hty
 obtain⟨g,rfl⟩:=hp (by omega)
 have h7:=run_indexAt_slice (P:=P) w t ⟨g,0,none⟩ n cap kk z ht
 rw[if_pos ⟨hz.1,hz.2⟩,CM hs,Result.andThen_ok,KD,Nat.zero_add]at h7
 exact⟨_,by simp[execOp,ho,h1,h2,hVr,h7],g,n,cap,hVr,rfl⟩
theorem Q7c{x:Operand}{t:TypeId}{r ty k n:Nat}{ds:List Dat}(ho:o.op=.call { callee:=.builtin .len,args := #[x],argTypes := #[t] })(hx:Kn T x (.own r))(hr:lk r R=some ⟨ty,k,n,ds,false⟩)(ht:P.underlying t=some (.slice (P.elem t)))(hty:Nat.blt ty 2000000=false:=by rfl):
  LStep P cx B R o T (.is (.int .i64 (n:Int))):=LStep.same fun M V w a hh hk=>by
 have h1:a.eval x=V r:=hk x _ (by simp[ho,Op.operands,Call.operands]) hx
 obtain⟨p,c,h3,_⟩:=hh.tree_slice hr hty
 exact⟨_,by simp[execOp,ho,h1,h3,resolve,invoke,builtin,run_len_slice w t _ p n c ht,goInt],.cell _⟩
theorem HR.tree_cells{w:World}(hh:HR cx B R M V w){r ty k n g n' c:Nat}{ds:List Dat}(hr:lk r R=some ⟨ty,k,n,ds,false⟩)(hty:Nat.blt ty 2000000=false)(hV:V r=.slice (some ⟨g,0,none⟩) n' c):∃ xs,Fits w (Dc cx B R M V w) (ds.map cellD) xs /\ ∀ i v,xs[i]?=some v->w.cell? ⟨g,i,none⟩=some v:=by
 obtain⟨xs,hown,hf,_⟩:=Gx.tree (show Gx w (Dc cx B R M V w) 0 ty k (V r) n ds from hh.row r _ hr) hty
 refine⟨xs,Q0D hf,fun i v hv=>?_⟩
 rcases hown.2 with⟨h1,_⟩ | ⟨g',cap,cur,h1,_,h2,h3,_,h4,h5⟩
 ·rw[hV]at h1;cases h1
 ·rw[hV]at h1
  cases h1
  rw[XF h2]
  have hi:i<xs.length:=by
   rcases Nat.lt_or_ge i xs.length with h | h
   ·exact h
   ·rw[List.getElem?_eq_none h]at hv;cases hv
  have:=hown.1
  rw[<- h5,List.getElem?_take,if_pos (by omega)]at hv
  exact hv
theorem WC{x:Operand}{t:TypeId}{r ty k n j:Nat}{ds:List Dat}{d:Dat}(ho:o.op=.load t x)(hx:Kn T x (.via r (AtV j)))(hr:lk r R=some ⟨ty,k,n,ds,false⟩)(hj:ds[j]?=some d)(ht:oneT P t=true)(hty:Nat.blt ty 2000000=false:=by rfl):LStep P cx B R o T (.part (.one (cellD d))):=LStep.same fun M V w a hh hk=>by
 obtain⟨g,n',c,h1,h2⟩:AtV j (V r) (a.eval x):=hk x _ (by simp[ho,Op.operands]) hx
 obtain⟨xs,hf,hc⟩:=hh.tree_cells hr hty h1
 have hd:(ds.map cellD)[j]?=some (cellD d):=by rw[List.getElem?_map,hj];rfl
 have hxj:j<xs.length:=by
  rw[<- hf.1]
  rcases Nat.lt_or_ge j (ds.map cellD).length with h | h
  ·exact h
  ·rw[List.getElem?_eq_none h]at hd;cases hd
 have h5:=EM (P:=P) w ⟨g,j,none⟩ _ t (hc j _ (List.getElem?_eq_getElem hxj)) ht
 exact⟨xs[j],by simp[execOp,ho,h2,Instr.loadAt,Instr.sureAddr,h5],hf.2 j _ _ hd (List.getElem?_eq_getElem hxj)⟩
theorem Q0o{w:World}{D:Nat->Prop}{t e oty:TypeId}{k n m bytes:Nat}{v u:Value}{xs:List Value}{es:List Dat}(hown:w.ownsRow 0 e k v n xs)(hu:Lies w D (.row k m es) u)(hm:0<m)(ht:P.underlying t=some (.slice e))(hz:(P.info? e).map (fun i=>(i.size,i.bytes,i.zero.map (·.cells.size)))=some (k,bytes,some k))(hk:0<k)(h1:es.all Dat.isOne=true)(hb1:n+m<=140737488355328)(hb2:(n+m)*bytes<=140737488355328):
  ∃ v' w' news,(Builtin.append_ #[t,t] oty #[v,u]).run P w=.ok v' w'/\w'.ownsRow 0 e k v' (n+m) (xs++news)/\w.grownBy w' v.ownBlock/\(v'.ownBlock=v.ownBlock\/v'.ownBlock=some w.heap.size)/\Fits w D es news:=by
 cases hi:P.info? e with
 | none=>simp[hi]at hz
 | some i=>
  cases hzz:i.zero with
  | none=>simp[hi,hzz]at hz
  | some z=>
   simp only[hi,hzz,Option.map_some,Option.some.injEq,Prod.mk.injEq]at hz
   obtain⟨z1,z2,z3⟩:=hz
   obtain⟨ad,c,news,rfl,hnl,hnx,hfe⟩:=Q3I hm hu
   obtain⟨v',w',hrun,hown',hgr,_,hblk⟩:=run_append_own_at (P:=P) w 0 t oty e i z k bytes ht hi hzz z1 z2 z3 hk v n xs hown ad m c news hnl hnx (hfe.one h1) (by unfold maxLen;omega) hb2 (Nat.zero_le _)
   exact⟨v',w',news,hrun,hown',hgr,hblk,hfe⟩
theorem SB{w:World}{D:Nat->Prop}{ds es:List Dat}{news:List Value}(hf:Fits w D es news){g:Nat}(h:Kid (ds++es) g):Kid ds g:=by
 obtain⟨j,d,hd,hg⟩:=h
 rcases Nat.lt_or_ge j ds.length with hj | hj
 ·rw[List.getElem?_append_left hj]at hd
  exact⟨j,d,hd,hg⟩
 ·rw[List.getElem?_append_right hj]at hd
  have hlt:j-ds.length<news.length:=by
   rw[<- hf.1]
   rcases Nat.lt_or_ge (j-ds.length) es.length with h | h
   ·exact h
   ·rw[List.getElem?_eq_none h]at hd;cases hd
  have:=(hf.2 _ d _ hd (List.getElem?_eq_getElem hlt)).kid.2
  rw[this]at hg
  cases hg
theorem U8{d:Nat}{x y:Operand}{t e:TypeId}{r k m n bytes:Nat}{ty:TypeId}{ds es:List Dat}(hg:o.guard=none)(hd:o.dst=some d)(hn:Nat.blt d cx.n=true)(ho:o.op=.call { callee:=.builtin .append,args := #[x,y],argTypes := #[t,t] })(hx:Kn T x (.own r))(hr:lk r R=some ⟨ty,k,n,ds,false⟩)(hy:Kn T y (.part (.one (.row k m es))))(hm:0<m)
  (ht:P.underlying t=some (.slice e)) (hz:(P.info? e).map (fun i=>(i.size,i.bytes,i.zero.map (·.cells.size)))=some (k,bytes,some k)) (hk:Nat.blt 0 k=true) (h1:es.all Dat.isOne=true) (hb1:n+m<=140737488355328) (hb2:(n+m)*bytes<=140737488355328)
  (hE:E cx ((d,.own r)::RA r T) (NS r B) ((r,⟨ty,k,n+m,ds++es,false⟩)::R) (wpList P ops Q l)) (hty:Nat.blt ty 2000000=false:=by rfl) (hte:Nat.beq (ty-2000000) e=true:=by rfl):E cx T B R (wpList P ops Q (o::l)):=fun M V a w hrel=>by
 have hte':ty-2000000=e:=Nat.eq_of_beq_eq_true hte
 refine wpList_plain hg fun K hK=>?_
 have hh:=hrel.heap
 have hxv:a.eval x=V r:=hx w (Dc cx B R M V w) M V a fun t z _ hz=>hrel.tmp t z hz
 have hyv:Lies w (Dc cx B R M V w) (.row k m es) (a.eval y):=hy w (Dc cx B R M V w) M V a fun t z _ hz=>hrel.tmp t z hz
 obtain⟨xs,hown,hf,hap⟩:=Gx.tree (show Gx w (Dc cx B R M V w) 0 ty k (V r) n ds from hh.row r _ hr) hty
 rw[hte']at hown
 obtain⟨v',w',news,hrun,hown',hgr,hblk,hfe⟩:=Q0o (P:=P) (oty:=o.type) hown hyv hm ht hz (by simpa using hk) h1 hb1 hb2
 rw[<- D5 hown,<- D5 hown']at hblk
 rw[<- D5 hown]at hgr
 have hkl:∀ g,Kid ds g->g<w.heap.size:=fun g hg=>Gx.lt (show Gx w (Dc cx B R M V w) 0 ty k (V r) n ds from hh.row r _ hr) g (.inr ⟨hty,hg⟩)
 have hkn:∀ g,Kid ds g->obk v'≠some g:=fun g hg e=>by
  rcases hblk with h | h
  ·obtain⟨j,d,hd,hb⟩:=hg
   exact hap.own j d g hd hb (h▸e)
  ·rw[h]at e
   have:=hkl g hg
   have:w.heap.size=g:=by simpa using e
   omega
 have key:∀ (g i:Nat) (d:Dat),(ds++es)[i]?=some d->kidBlk d=some g->ds[i]?=some d:=fun g i d hi hd=>by
  rcases Nat.lt_or_ge i ds.length with h | h
  ·rwa [List.getElem?_append_left h]at hi
  ·rw[List.getElem?_append_right h]at hi
   have hlt:i-ds.length<news.length:=by
    rw[<- hfe.1]
    rcases Nat.lt_or_ge (i-ds.length) es.length with h | h
    ·exact h
    ·rw[List.getElem?_eq_none h]at hi;cases hi
   have:=(hfe.2 _ d _ hi (List.getElem?_eq_getElem hlt)).kid.2
   rw[this]at hd
   cases hd
 have hrow:∀ D':Nat->Prop,Keeps (Dc cx B R M V w) w w'->(∀ g,Dc cx B R M V w g->D' g)->Gx w' D' 0 ty k v' (n+m) (ds++es):=fun D' hk2 hD=>by
  refine⟨xs++news,.inr (.inr ⟨hty,by rw[hte'];exact hown'⟩),.inr ⟨hty,⟨by rw[List.length_append,List.length_append,hf.1,hfe.1],fun j d x hd hx=>?_⟩,⟨fun j d g hd hb=>hkn g (SB hfe ⟨j,d,hd,hb⟩),fun i j d e g hi hj hd he=>hap.two i j d e g (key g i d hi hd) (key g j e hj he) hd he⟩⟩⟩
  rcases Nat.lt_or_ge j ds.length with hj | hj
  ·rw[List.getElem?_append_left hj]at hd
   rw[List.getElem?_append_left (by rw[<- hf.1];exact hj)]at hx
   refine(hf.2 j d x hd hx).stay (fun g hg=>hgr.block g (hkl g ⟨j,d,hd,hg⟩) fun e=>?_) hk2 hD
   exact hap.own j d g hd hg e.symm
  ·rw[List.getElem?_append_right hj]at hd
   rw[List.getElem?_append_right (by rw[<- hf.1];exact hj),<- hf.1]at hx
   exact((hfe.2 _ d x hd hx).stay hk2 hD).kid.1
 obtain⟨V',_,hrel'⟩:=hrel.grown (z':=⟨ty,k,n+m,ds++es,false⟩) (d:=d) hr rfl rfl hgr (fun g hg=>by
  rcases hg with hg | ⟨_,hg⟩
  ·rcases hblk with h | h
   ·exact .inl (.inl (h▸hg))
   ·rw[h]at hg
    exact .inr (by simpa using hg.symm)
  ·exact .inl (.inr ⟨hty,SB hfe hg⟩)) hrow hn
 have:=hK _ _ (hE M V' _ _ hrel')
 unfold Oper.wp execOp
 simp only[ho,resolve,invoke,builtin,Sem.run_bind,Sem.run_pure,Result.andThen_ok,List.map_toArray,List.map_cons,List.map_nil,hxv,hrun]
 simp only[Oper.upon,hd]
 exact this
end
section
variable{P:Program}{cx:Cx}{T:TL}{B:BL}{R:RL}{M:Nat->Nat}{V:Nat->Value}{o:Oper}{ops:Array Oper}{Q:Exit->Act->World->Prop}{l:List Oper}
def Q0N(q:Nat):RL->RL
 | []=>[]
 | (c,x)::l=>bif Nat.beq c q then Q0N q l else(c,x)::Q0N q l
theorem FJ{q c:Nat}{x:Rw}:∀ {R:RL},lk c (Q0N q R)=some x->c≠q/\lk c R=some x
 | [],h=>by cases h
 | (d,y)::R,h=>by
  unfold Q0N at h
  cases hb:Nat.beq d q with
  | true=>
   rw[hb]at h
   obtain⟨h1,h2⟩:=FJ (R:=R) h
   have hd:=Nat.eq_of_beq_eq_true hb
   exact⟨h1,by rw[BG _ _ (fun e=>h1 (by rw[<- e,hd]))];exact h2⟩
  | false=>
   rw[hb]at h
   have hd:d≠q:=fun e=>by rw[e]at hb;simp at hb
   rcases AK h with⟨rfl,rfl⟩ | ⟨h1,h2⟩
   ·exact⟨hd,B5 _ _ _⟩
   ·obtain⟨h3,h4⟩:=FJ (R:=R) h2
    exact⟨h3,by rw[BG _ _ h1];exact h4⟩
theorem Q1m{α:Type}{l:List α}{j:Nat}(h:j<l.length)(e:α)(i:Nat):(l.set j e)[i]?=if j=i then some e else l[i]?:=by
 rw[List.getElem?_set]
 by_cases hj:j=i
 ·rw[if_pos hj,if_pos hj,if_pos h]
 ·rw[if_neg hj,if_neg hj]
theorem Q5Y{ds:List Dat}{j:Nat}{d:Dat}{g:Nat}(h:Kid (ds.set j d) g):kidBlk d=some g\/Kid ds g:=by
 obtain⟨i,e,he,hg⟩:=h
 rw[List.getElem?_set]at he
 split at he
 ·split at he
  ·obtain rfl:=Option.some.inj he
   exact .inl hg
  ·cases he
 ·exact .inr ⟨i,e,he,hg⟩
theorem QG{K:Act->World->Prop}(j:Nat){s r q ty k n tq kq nq:Nat}{v0:Value}{ds es:List Dat}(hp:lk s T=some (LQ q v0))(hr:lk r R=some ⟨ty,k,n,ds,false⟩)(hq:lk q R=some ⟨tq,kq,nq,es,false⟩)(hj:ds[j]?=some (.cell v0))(hne:Nat.beq q r=false)(h:E cx T B ((r,⟨ty,k,n,ds.set j (.orow tq kq nq v0 es),false⟩)::Q0N q R) K)(hty:Nat.blt ty 2000000=false:=by rfl)(htq:Nat.blt tq 1000000=true:=by rfl):E cx T B R K:=fun M V a w hrel=>by
 have hh:=hrel.heap
 have hqr:q≠r:=fun e=>by rw[e]at hne;simp at hne
 have hv:V q=v0:=hrel.tmp s _ hp
 have hrow:Gx w (Dc cx B R M V w) 0 ty k (V r) n ds:=hh.row r _ hr
 obtain⟨xs,hown,hf,hap⟩:=Gx.tree hrow hty
 obtain⟨ys,hoq,hfq⟩:=Gx.row (show Gx w (Dc cx B R M V w) 0 tq kq (V q) nq es from hh.row q _ hq) htq
 rw[hv]at hoq
 have hob:v0.ownBlock=obk v0:=(D5 hoq).symm
 have hqo:∀ g,obk v0=some g->obs tq es (V q) g:=fun g hg=>.inl (by rw[hv];exact hg)
 have hkn:∀ g,obk v0=some g->¬ obs ty ds (V r) g:=fun g hg e=>hqr (hh.rr q r _ _ g hq hr rfl rfl (hqo g hg) e)
 have hobs:∀ g,obs ty (ds.set j (.orow tq kq nq v0 es)) (V r) g->obs ty ds (V r) g\/obs tq es (V q) g:=fun g hg=>by
  rcases hg with hg | ⟨_,hg⟩
  ·exact .inl (.inl hg)
  ·rcases Q5Y hg with h | h
   ·exact .inr (hqo g (hob▸h))
   ·exact .inl (.inr ⟨hty,h⟩)
 have hjl:j<ds.length:=by
  rcases Nat.lt_or_ge j ds.length with h | h
  ·exact h
  ·rw[List.getElem?_eq_none h]at hj;cases hj
 have hD:∀ g,Dc cx B R M V w g->Dc cx B ((r,⟨ty,k,n,ds.set j (.orow tq kq nq v0 es),false⟩)::Q0N q R) M V w g:=fun g hg=>by
  rcases hg with hg | ⟨a1,a2,a3,a4⟩
  ·exact .inl hg
  ·refine .inr ⟨a1,a2,a3,fun c x hx hf e=>?_⟩
   rcases AK hx with⟨rfl,rfl⟩ | ⟨_,hx⟩
   ·rcases hobs g e with e | e
    ·exact a4 _ _ hr rfl e
    ·exact a4 _ _ hq rfl e
   ·exact a4 c x (FJ hx).2 hf e
 have hk:=Keeps.refl (Dc cx B R M V w) w
 refine h M V a w ⟨hrel.size,hrel.defers,⟨hh.below,hh.d0,hh.bl,hh.gl,fun c x hx=>?_,fun c x hx=>?_,fun c x g hx hf hg=>?_,hh.pin,hh.bb,fun c e x y g hx hy hf hg=>?_,fun c e x y g hx hy hf hf' hg hg'=>?_⟩,fun t x hx=>(hrel.tmp t x hx).stay hk hD⟩
 ·obtain⟨a1,cs,a2,a3⟩:=hh.box c x hx
  exact⟨a1,cs,a2,a3.stay hk hD⟩
 ·rcases AK hx with⟨rfl,rfl⟩ | ⟨_,hx⟩
  ·have hset:=Q1m hjl (Dat.orow tq kq nq v0 es)
   have hG:Gx w (Dc cx B ((r,⟨ty,k,n,ds.set j (.orow tq kq nq v0 es),false⟩)::Q0N q R) M V w) 0 ty k (V r) n (ds.set j (.orow tq kq nq v0 es)):=by
    refine⟨xs,.inr (.inr ⟨hty,hown⟩),.inr ⟨hty,⟨by rw[List.length_set];exact hf.1,fun i d x hd hx=>?_⟩,⟨fun i d g hd hg e=>?_,fun i i2 d d2 g hd hd2 hg hg2=>?_⟩⟩⟩
    ·rw[hset]at hd
     split at hd
     ·rename_i hji
      subst hji
      obtain rfl:=Option.some.inj hd
      exact⟨Lies.cell_eq (hf.2 j _ x hj hx),htq,ys,hoq,hfq.stay hk hD⟩
     ·exact(hf.2 i d x hd hx).stay (fun _ _=>rfl) hk hD
    ·rw[hset]at hd
     split at hd
     ·obtain rfl:=Option.some.inj hd
      exact hkn g (hob▸hg) (.inl e)
     ·exact hap.own i d g hd hg e
    ·rw[hset]at hd hd2
     split at hd
     ·rename_i hji
      obtain rfl:=Option.some.inj hd
      split at hd2
      ·rename_i hji2
       exact hji.symm.trans hji2
      ·exact absurd (.inr ⟨hty,i2,d2,hd2,hg2⟩) (hkn g (hob▸hg))
     ·split at hd2
      ·obtain rfl:=Option.some.inj hd2
       exact absurd (.inr ⟨hty,i,d,hd,hg⟩) (hkn g (hob▸hg2))
      ·exact hap.two i i2 d d2 g hd hd2 hg hg2
   exact hG
  ·have h1:=hh.row c x (FJ hx).2
   split
   ·rename_i hf
    rw[if_pos hf]at h1
    exact h1.stay hk hD
   ·rename_i hf
    rw[if_neg hf]at h1
    exact Gx.stay h1 (fun _ _=>rfl) hk hD
 ·rcases AK hx with⟨rfl,rfl⟩ | ⟨_,hx⟩
  ·rcases hobs g hg with e | e
   ·exact hh.ro _ _ g hr rfl e
   ·exact hh.ro _ _ g hq rfl e
  ·exact hh.ro c x g (FJ hx).2 hf hg
 ·rcases AK hy with⟨rfl,rfl⟩ | ⟨_,hy⟩
  ·rcases hobs g hg with h | h
   ·exact hh.br c _ x _ g hx hr rfl h
   ·exact hh.br c _ x _ g hx hq rfl h
  ·exact hh.br c e x y g hx (FJ hy).2 hf hg
 ·rcases AK hx with⟨rfl,rfl⟩ | ⟨hc,hx2⟩
  ·rcases AK hy with⟨rfl,rfl⟩ | ⟨he,hy2⟩
   ·rfl
   ·obtain⟨he2,hy3⟩:=FJ hy2
    rcases hobs g hg with h | h
    ·exact hh.rr _ e _ y g hr hy3 rfl hf' h hg'
    ·exact absurd (hh.rr q e _ y g hq hy3 rfl hf' h hg').symm he2
  ·obtain⟨hc2,hx3⟩:=FJ hx2
   rcases AK hy with⟨rfl,rfl⟩ | ⟨he,hy2⟩
   ·rcases hobs g hg' with h | h
    ·exact hh.rr c _ x _ g hx3 hr hf rfl hg h
    ·exact absurd (hh.rr c q x _ g hx3 hq hf rfl hg h) hc2
   ·exact hh.rr c e x y g hx3 (FJ hy2).2 hf hf' hg hg'
theorem Q4y{K:Act->World->Prop}(j s q:Nat){r ty k n tq kq nq:Nat}{v0:Value}{ds es:List Dat}(hr:lk r R=some ⟨ty,k,n,ds,false⟩)(hj:ds[j]?=some (.orow tq kq nq v0 es))(hne:Nat.beq q r=false)(hT:Q1d q T=true)(hB:Q0E q B=true)(hR0:lk q R=none)(h:E cx ((s,LQ q v0)::T) B ((q,⟨tq,kq,nq,es,false⟩)::(r,⟨ty,k,n,ds.set j (.cell v0),false⟩)::R) K)(hty:Nat.blt ty 2000000=false:=by rfl):E cx T B R K:=fun M V a w hrel=>by
 have hh:=hrel.heap
 have hqr:q≠r:=fun e=>by rw[e]at hne;simp at hne
 have hrow:Gx w (Dc cx B R M V w) 0 ty k (V r) n ds:=hh.row r _ hr
 obtain⟨xs,hown,hf,hap⟩:=Gx.tree hrow hty
 have hjl:j<ds.length:=by
  rcases Nat.lt_or_ge j ds.length with h | h
  ·exact h
  ·rw[List.getElem?_eq_none h]at hj;cases hj
 have hjx:j<xs.length:=by rw[<- hf.1];exact hjl
 obtain⟨hxv,htq,ys,hoq,hfq⟩:KidFit w _ (.orow tq kq nq v0 es) xs[j]:=hf.2 j _ _ hj (List.getElem?_eq_getElem hjx)
 have hob:v0.ownBlock=obk v0:=(D5 hoq).symm
 let V':Nat->Value:=fun c=>if c=q then v0 else V c
 have hVq:V' q=v0:=if_pos rfl
 have hV:∀ c,c≠q->V' c=V c:=fun c h=>if_neg h
 have hVr:V' r=V r:=hV r hqr.symm
 have hk0:∀ g,obk v0=some g->obs ty ds (V r) g:=fun g hg=>.inr ⟨hty,j,_,hj,show v0.ownBlock=some g from hob.trans hg⟩
 have hks:∀ (i:Nat) (d:Dat) g,(ds.set j (.cell v0))[i]?=some d->kidBlk d=some g->i≠j/\ds[i]?=some d:=fun i d g hd hg=>by
  rw[Q1m hjl]at hd
  split at hd
  ·obtain rfl:=Option.some.inj hd
   cases hg
  ·rename_i hji
   exact⟨fun e=>hji e.symm,hd⟩
 have hobs:∀ g,obs ty (ds.set j (.cell v0)) (V r) g->obs ty ds (V r) g:=fun g hg=>by
  rcases hg with hg | ⟨_,i,d,hd,hg⟩
  ·exact .inl hg
  ·exact .inr ⟨hty,i,d,(hks i d g hd hg).2,hg⟩
 have hkn:∀ g,obk v0=some g->¬ obs ty (ds.set j (.cell v0)) (V r) g:=fun g hg e=>by
  rcases e with e | ⟨_,i,d,hd,e⟩
  ·exact hap.own j _ g hj (show v0.ownBlock=some g from hob.trans hg) e
  ·obtain⟨h1,h2⟩:=hks i d g hd e
   exact h1 (hap.two i j d _ g h2 hj e (show v0.ownBlock=some g from hob.trans hg))
 have hzq:∀ g,obs tq es v0 g->obk v0=some g:=fun g hg=>L7 hg (DH htq)
 have hD:∀ g,Dc cx B R M V w g->Dc cx B ((q,⟨tq,kq,nq,es,false⟩)::(r,⟨ty,k,n,ds.set j (.cell v0),false⟩)::R) M V' w g:=fun g hg=>by
  rcases hg with hg | ⟨a1,a2,a3,a4⟩
  ·exact .inl hg
  ·refine .inr ⟨a1,a2,a3,fun c x hx hf e=>?_⟩
   rcases AK hx with⟨rfl,rfl⟩ | ⟨hc,hx⟩
   ·rw[hVq]at e
    exact a4 _ _ hr rfl (hk0 g (hzq g e))
   ·rw[hV c hc.symm]at e
    rcases AK hx with⟨rfl,rfl⟩ | ⟨_,hx⟩
    ·exact a4 _ _ hr rfl (hobs g e)
    ·exact a4 c x hx hf e
 have hk:=Keeps.refl (Dc cx B R M V w) w
 refine h M V' a w ⟨hrel.size,hrel.defers,⟨hh.below,hh.d0,hh.bl,hh.gl,fun c x hx=>?_,fun c x hx=>?_,fun c x g hx hf hg=>?_,hh.pin,hh.bb,fun c e x y g hx hy hf hg=>?_,fun c e x y g hx hy hf hf' hg hg'=>?_⟩,fun t x hx=>?_⟩
 ·obtain⟨a1,cs,a2,a3⟩:=hh.box c x hx
  have hn:=List.all_eq_true.1 hB _ (FO hx)
  have a4:CFit w (Dc cx B R M V w) M V' x.cs cs:=⟨a3.1,fun j y v h1 h2=>⟨(a3.2 j y v h1 h2).1.newV hV (List.all_eq_true.1 hn _ (List.mem_of_getElem? h1)),(a3.2 j y v h1 h2).2⟩⟩
  exact⟨a1,cs,a2,a4.stay hk hD⟩
 ·rcases AK hx with⟨rfl,rfl⟩ | ⟨hc,hx⟩
  ·rw[hVq]
   exact(⟨ys,.inl ⟨htq,hoq⟩,.inl ⟨DH htq,hfq.stay hk hD⟩⟩:Gx _ _ _ _ _ _ _ _)
  ·rw[hV c hc.symm]
   rcases AK hx with⟨rfl,rfl⟩ | ⟨_,hx⟩
   ·refine(⟨xs,.inr (.inr ⟨hty,hown⟩),.inr ⟨hty,⟨by rw[List.length_set];exact hf.1,fun i d x hd hx=>?_⟩,⟨fun i d g hd hg=>hap.own i d g (hks i d g hd hg).2 hg,fun i i2 d d2 g hd hd2 hg hg2=>hap.two i i2 d d2 g (hks i d g hd hg).2 (hks i2 d2 g hd2 hg2).2 hg hg2⟩⟩⟩:Gx _ _ _ _ _ _ _ _)
    rw[Q1m hjl]at hd
    split at hd
    ·rename_i hji
     subst hji
     ·obtain rfl:=Option.some.inj hd
      have e1:xs[j]=x:=Option.some.inj ((List.getElem?_eq_getElem hjx).symm.trans hx)
      have e2:x=v0:=e1.symm.trans hxv
      rw[e2]
      exact Lies.cell v0
    ·exact(hf.2 i d x hd hx).stay (fun _ _=>rfl) hk hD
   ·have h1:=hh.row c x hx
    split
    ·rename_i hf
     rw[if_pos hf]at h1
     exact h1.stay hk hD
    ·rename_i hf
     rw[if_neg hf]at h1
     exact Gx.stay h1 (fun _ _=>rfl) hk hD
 ·rcases AK hx with⟨rfl,rfl⟩ | ⟨hc,hx⟩
  ·rw[hVq]at hg
   exact hh.ro _ _ g hr rfl (hk0 g (hzq g hg))
  ·rw[hV c hc.symm]at hg
   rcases AK hx with⟨rfl,rfl⟩ | ⟨_,hx⟩
   ·exact hh.ro _ _ g hr rfl (hobs g hg)
   ·exact hh.ro c x g hx hf hg
 ·rcases AK hy with⟨rfl,rfl⟩ | ⟨he,hy⟩
  ·rw[hVq]at hg
   exact hh.br c _ x _ g hx hr rfl (hk0 g (hzq g hg))
  ·rw[hV e he.symm]at hg
   rcases AK hy with⟨rfl,rfl⟩ | ⟨_,hy⟩
   ·exact hh.br c _ x _ g hx hr rfl (hobs g hg)
   ·exact hh.br c e x y g hx hy hf hg
 ·have hmix:∀ (c:Nat) (x:Rw) (g:Nat),c≠q->lk c ((r,⟨ty,k,n,ds.set j (.cell v0),false⟩)::R)=some x->x.fz=false->obs x.ty x.ds (V c) g->¬ obk v0=some g:=fun c x g hc hx hf hg e=>by
   rcases AK hx with⟨rfl,rfl⟩ | ⟨hcr,hx⟩
   ·exact hkn g e hg
   ·exact hcr (hh.rr r c _ x g hr hx rfl hf (hk0 g e) hg)
  rcases AK hx with⟨rfl,rfl⟩ | ⟨hc,hx2⟩
  ·rcases AK hy with⟨rfl,rfl⟩ | ⟨he,hy2⟩
   ·rfl
   ·rw[hVq]at hg
    rw[hV e he.symm]at hg'
    exact absurd (hzq g hg) (hmix e y g he.symm hy2 hf' hg')
  ·rw[hV c hc.symm]at hg
   rcases AK hy with⟨rfl,rfl⟩ | ⟨he,hy2⟩
   ·rw[hVq]at hg'
    exact absurd (hzq g hg') (hmix c x g hc.symm hx2 hf hg)
   ·rw[hV e he.symm]at hg'
    rcases AK hx2 with⟨rfl,rfl⟩ | ⟨_,hx3⟩
    ·rcases AK hy2 with⟨rfl,rfl⟩ | ⟨_,hy3⟩
     ·rfl
     ·exact hh.rr _ e _ y g hr hy3 rfl hf' (hobs g hg) hg'
    ·rcases AK hy2 with⟨rfl,rfl⟩ | ⟨_,hy3⟩
     ·exact hh.rr c _ x _ g hx3 hr hf rfl hg (hobs g hg')
     ·exact hh.rr c e x y g hx3 hy3 hf hf' hg hg'
 ·rcases AK hx with⟨rfl,rfl⟩ | ⟨_,hx⟩
  ·exact hVq
  ·exact((hrel.tmp t x hx).newV hV (List.all_eq_true.1 hT _ (FO hx))).stay hk hD
theorem SU{K:Act->World->Prop}(b j r:Nat){bx:Bx}{y:Rw}{is:List IV}(hb:lk b B=some bx)(hj:bx.cs[j]?=some (.own r))(hy:lk r R=some y)(hf:y.fz=false)(his:bx.cs.set j (.part (.one (.row y.k y.n (y.ds.map QT))))=is)(h:E cx T ((b,⟨bx.ty,is⟩)::B) ((r,⟨y.ty,y.k,y.n,y.ds,true⟩)::R) K)(hty:Nat.blt y.ty 2000000=false:=by rfl):E cx T B R K:=fun M V a w hr=>by
 have h2:=hr.freeze r hy hf
 obtain⟨_,cs,a2,a3⟩:=h2.heap.box b bx hb
 refine h M V a w (h2.set hb a2 (fun _ _=>rfl) rfl rfl rfl rfl ⟨by rw[<- his];simp[a3.1],fun i z u hz hu=>?_⟩)
 rw[<- his,List.getElem?_set]at hz
 split at hz
 ·rename_i hij
  subst hij
  split at hz
  ·obtain rfl:=Option.some.inj hz
   have h3:=h2.heap.row r _ (B5 _ _ _)
   rw[if_pos rfl,JT (x:=⟨y.ty,y.k,y.n,y.ds,true⟩) hty]at h3
   have h4:=a3.2 j _ u hj hu
   have h5:u=V r:=h4.1
   refine⟨?_,h4.2⟩
   rw[h5]
   exact h3
  ·cases hz
 ·exact a3.2 i z u hz hu
theorem Q9{f:FuncId}{xs:List Operand}{ts:Array TypeId}{ps:List Part}{y y':IV}(ho:o.op=.call { callee:=.value (.func f),args:=xs.toArray,argTypes:=ts })(hc:BU P f=true)(hf:EF P cx.gl f ps y)
  (hx:∀ (w:World) (D:Nat->Prop) (M:Nat->Nat) (V:Nat->Value) (a:Act),(∀ t z,.tmp t∈xs->lk t T=some z->VR w D M V z (a.tmps.getD t undef))->(∀ r x,lk r R=some x->Lies w D (datOf x) (V r))->PsFit w D ps (xs.map a.eval)) (hy:Far y y'):LStep P cx B R o T y':=fun M V w a hh ht=>by
 have hrun:(execOp a.eval o).run P w=.ok (.enter f (xs.map a.eval).toArray) w:=by
  have he:a.eval (.func f)=.func (.func f) #[] #[]:=rfl
  simp[execOp,ho,resolve,he,Deferred.ofValue,invoke,C2 hc]
 rw[hrun]
 let D':Nat->Prop:=fun g=>Dc cx B R M V w g \/ ∃ r x,lk r R=some x/\x.fz=false/\obs x.ty x.ds (V r) g
 have hk:=Keeps.refl (Dc cx B R M V w) w
 have hDD:∀ g,Dc cx B R M V w g->D' g:=fun g h=>.inl h
 have hD':∀ g,D' g->g<w.heap.size:=fun g hg=>by
  rcases(show Dc cx B R M V w g \/ ∃ r x,lk r R=some x/\x.fz=false/\obs x.ty x.ds (V r) g from hg)with hg | ⟨r,x,h1,h2,h3⟩
  ·exact hh.dlt hg
  ·have h4:=hh.row r x h1
   rw[h2]at h4
   exact Gx.lt h4 g h3
 have hp:PsFit w D' ps (xs.map a.eval):=hx w D' M V a (fun t z hm hz=>(ht t z (by rw[ho];simp only[Op.operands,Call.operands];simp[hm]) hz).stay hk hDD) fun r x hr=>by
  have h4:=hh.row r x hr
  cases hfz:x.fz with
  | true=>
   rw[if_pos hfz]at h4
   exact h4.stay hk hDD
  | false=>
   rw[hfz]at h4
   exact Gx.frozen (show Gx w (Dc cx B R M V w) 0 x.ty x.k (V r) x.n x.ds from h4) hDD fun g hg=>.inr ⟨r,x,hr,hfz,hg⟩
 refine⟨rfl,(hf w D' (xs.map a.eval) hD' hh.glok hp).mono fun e w' ⟨v,y0,h1,h2,h3,h4⟩=>?_⟩
 subst h2
 exact⟨v,h1,h3,hy _ _ _ _ _ _ _ _ _ (h4 M V)⟩
end
end Go.Proofs.YtgcphgdkddihcaaGreatDoor
