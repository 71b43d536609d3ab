/- Part 11. Conditions: as each theorem says. -/
import Derived.Test.YtgcphgdkddihcaaGreatDoorSR10
import Derived.Carry
import Derived.Laws.Slices
import Derived.Laws.StructEq
import Derived.Laws.IdiomStrings
import Derived.Laws.Entries
import Derived.Laws.MakeOwn
set_option maxRecDepth 100000
namespace Go.Proofs.YtgcphgdkddihcaaGreatDoor
open Go.RowKit
section
section
variable{P:Program}{cx:Cx}{T:TL}{B:BL}{R:RL}{o:Oper}
theorem Q1a(r ty k:Nat){ops:Array Oper}{Q:Exit->Act->World->Prop}{l:List Oper}{d:Nat}{t:TypeId}(hg:o.guard=none)(hd:o.dst=some d)(hn:Nat.blt d cx.n=true)(ho:o.op=.makeMap t none)
  (hT:Q1d r T=true) (hB:Q0E r B=true) (hE:E cx ((d,.own r)::T) B ((r,⟨ty,k,0,[],false⟩)::R) (wpList P ops Q l)) (hty:Nat.blt ty 1000000=false:=by rfl) (hty2:Nat.blt ty 2000000=true:=by rfl):E cx T B R (wpList P ops Q (o::l)):=fun M V a w hrel=>by
 refine wpList_plain hg fun K hK=>?_
 have hb:Below w.heap.size w (w.alloc (.map #[] 0)):=(Below.refl _ _).alloc (Nat.le_refl _) _
 let v:Value:=.map (some w.heap.size)
 have hmade:MapRow (w.alloc (.map #[] 0)) 0 ty v 0 []:=⟨⟨hty,hty2⟩,w.heap.size,#[],0,rfl,Nat.zero_le _,heap_alloc_new w _,rfl,rfl⟩
 obtain⟨V',hVr,hr0⟩:=hrel.newrow (v':=v) (z':=⟨ty,k,0,[],false⟩) hb rfl (fun g hg=>by
  have h1:some w.heap.size=some g:=L7 hg hty2
  obtain rfl:=Option.some.inj h1
  exact⟨Nat.le_refl _,by simp⟩) (fun D' hD=>⟨[],.inr (.inl hmade),.inl ⟨hty2,Fits.nil _ _⟩⟩) r hT hB
 have hrel':=hr0.put (Below.refl _ _) (C0 hn) (x:=.own r) hVr.symm
 have:=hK _ _ (hE M V' _ _ hrel')
 unfold Oper.wp execOp
 simp only[ho,Option.map_none,Sem.run_bind]
 simp only[run_makeMap,Result.andThen_ok,Sem.run_pure,Oper.upon,hd]
 exact this
def AtV(o:Nat)(u v:Value):Prop:=∃ g n c,u=.slice (some ⟨g,0,none⟩) n c/\v=.pointer (some ⟨g,o,none⟩)
theorem KD(b o k:Nat):(⟨b,o,none⟩:Addr).add k=⟨b,o+k,none⟩:=by unfold Addr.add;split<;>simp_all
theorem HR.own_shape{M:Nat->Nat}{V:Nat->Value}{w:World}(hh:HR cx B R M V w){r ty k n:Nat}{ds:List Dat}(hr:lk r R=some ⟨ty,k,n,ds,false⟩)(hty:Nat.blt ty 1000000=true)(hn:0<n):
  ∃ g cap cur xs,V r=.slice (some ⟨g,0,none⟩) n cap/\w.heap[g]?=some (.cells cur ty (0,0))/\n<=cap/\cap<=maxLen/\cur.size=cap*k/\cur.toList.take (n*k)=xs/\xs.length=n*k/\Fits w (Dc cx B R M V w) ds xs:=by
 obtain⟨xs,hown,hfx⟩:Gr w (Dc cx B R M V w) 0 ty k (V r) n ds:=Gx.row (hh.row r _ hr) hty
 obtain⟨hxl,hv⟩:=hown
 obtain⟨g,cap,cur,hVr,_,hg,hcap,hmax,hcs,hcx⟩:=hv.resolve_left fun h=>by omega
 exact⟨g,cap,cur,xs,hVr,hg,hcap,hmax,hcs,hcx,hxl,hfx⟩
theorem HR.own_slice{M:Nat->Nat}{V:Nat->Value}{w:World}(hh:HR cx B R M V w){r ty k n:Nat}{ds:List Dat}(hr:lk r R=some ⟨ty,k,n,ds,false⟩)(hty:Nat.blt ty 1000000=true):∃ p cap,V r=.slice p n cap/\n<=cap/\(0<n -> ∃ g,p=some ⟨g,0,none⟩):=by
 obtain⟨xs,hown,hfx⟩:Gr w (Dc cx B R M V w) 0 ty k (V r) n ds:=Gx.row (hh.row r _ hr) hty
 obtain⟨hxl,hv⟩:=hown
 rcases hv with⟨h1,rfl⟩ | ⟨g,cap,cur,h1,_,_,h2,_⟩
 ·exact⟨none,0,h1,Nat.le_refl _,fun h=>by omega⟩
 ·exact⟨_,cap,h1,h2,fun _=>⟨g,rfl⟩⟩
theorem M7{x i:Operand}{t:TypeId}{r ty k n:Nat}{ds:List Dat}{kk:IntKind}{z:Int}(ho:o.op=.indexAddr t x i)(hx:Kn T x (.own r))(hr:lk r R=some ⟨ty,k,n,ds,false⟩)(hi:Kn T i (.is (.int kk z)))(hz:0<=z/\z<(n:Int))(ht:P.underlying t=some (.slice (P.elem t)))(hs:sizeT P (P.elem t)=some k)(hty:Nat.blt ty 1000000=true:=by rfl):
  LStep P cx B R o T (.via r (AtV (z.toNat*k))):=LStep.same fun M V w a hh hk=>by
 have h1:a.eval x=V r:=hk x _ (by simp[ho,Op.operands]) hx
 have h2:=(hk i _ (by simp[ho,Op.operands]) hi).is_eq
 obtain⟨p,cap,hVr,_,hp⟩:=hh.own_slice hr hty
 obtain⟨g,rfl⟩:=hp (by omega)
 have h7:=run_indexAt_slice (P:=P) w t ⟨g,0,none⟩ n cap kk z ht
 rw[if_pos ⟨hz.1,hz.2⟩,CM hs,Result.andThen_ok,KD,Nat.zero_add]at h7
 exact⟨_,by simp[execOp,ho,h1,h2,hVr,h7],g,n,cap,hVr,rfl⟩
theorem KE{x:Operand}{t:TypeId}{f off r j:Nat}(ho:o.op=.fieldAddr t x f)(hx:Kn T x (.via r (AtV j)))(h:BP P t f=some off):LStep P cx B R o T (.via r (AtV (j+off))):=LStep.same fun M V w a _ hk=>by
 obtain⟨g,n,c,h1,h2⟩:AtV j (V r) (a.eval x):=hk x _ (by simp[ho,Op.operands]) hx
 exact⟨_,by simp[execOp,ho,h2,KG h],g,n,c,h1,rfl⟩
theorem XF{w:World}{g ty j:Nat}{cur:Array Value}(hg:w.heap[g]?=some (.cells cur ty (0,0))):w.cell? ⟨g,j,none⟩=cur.toList[j]?:=by
 have:Blk w g ty cur.toList:=by unfold Blk;rw[hg]
 exact this.cell _
theorem P6{x:Operand}{t:TypeId}{r ty k n j:Nat}{ds:List Dat}{d:Dat}(ho:o.op=.load t x)(hx:Kn T x (.via r (AtV j)))(hr:lk r R=some ⟨ty,k,n,ds,false⟩)(hj:ds[j]?=some d)(ht:oneT P t=true)(hty:Nat.blt ty 1000000=true:=by rfl):LStep P cx B R o T (.part (.one d)):=LStep.same fun M V w a hh hk=>by
 obtain⟨g,n',c,h1,h2⟩:AtV j (V r) (a.eval x):=hk x _ (by simp[ho,Op.operands]) hx
 have hjl:j<ds.length:=by
  rcases Nat.lt_or_ge j ds.length with h | h
  ·exact h
  ·rw[List.getElem?_eq_none h]at hj;cases hj
 have hn:0<n:=by
  rcases Nat.eq_zero_or_pos n with h | h
  ·obtain⟨xs,hown,hfx⟩:Gr w (Dc cx B R M V w) 0 ty k (V r) n ds:=Gx.row (hh.row r _ hr) hty
   have:=hfx.1
   have:=hown.1
   rw[h,Nat.zero_mul]at this
   omega
  ·exact h
 obtain⟨g',cap,cur,xs,e1,e2,e3,e4,e5,e6,e7,e8⟩:=hh.own_shape hr hty hn
 rw[h1]at e1
 cases e1
 have hxj:j<xs.length:=by rw[<- e8.1];exact hjl
 have hc:w.cell? ⟨g,j,none⟩=some xs[j]:=by
  rw[XF e2,<- List.getElem?_eq_getElem hxj,<- e6,List.getElem?_take,if_pos (by omega)]
 have h5:=EM (P:=P) w ⟨g,j,none⟩ _ t hc ht
 exact⟨xs[j],by simp[execOp,ho,h2,Instr.loadAt,Instr.sureAddr,h5],e8.2 j d _ hj (List.getElem?_eq_getElem hxj)⟩
theorem HR.own_store{M:Nat->Nat}{V:Nat->Value}{w:World}{a:Act}(hrel:Rel cx T B R M V a w){r ty k n j g n' c:Nat}{ds es:List Dat}{us:List Value}(hr:lk r R=some ⟨ty,k,n,ds,false⟩)(hV:V r=.slice (some ⟨g,0,none⟩) n' c)(hjm:j+es.length<=ds.length)(he0:0<es.length)(hf:Fits w (Dc cx B R M V w) es us)(hone:∀ u∈us,u.oneCell'=true)(hty:Nat.blt ty 1000000=true):
  ∃ w',(storeCells ⟨g,j,none⟩ us 0).run P w=.ok () w'/\Rel cx T B ((r,⟨ty,k,n,ds.take j++es++ds.drop (j+es.length),false⟩)::R) M V a w':=by
 have hh:=hrel.heap
 have hn:0<n:=by
  rcases Nat.eq_zero_or_pos n with h | h
  ·obtain⟨xs,hown,hfx⟩:Gr w (Dc cx B R M V w) 0 ty k (V r) n ds:=Gx.row (hh.row r _ hr) hty
   have:=hfx.1
   have:=hown.1
   rw[h,Nat.zero_mul]at this
   omega
  ·exact h
 obtain⟨g',cap,cur,xs,e1,e2,e3,e4,e5,e6,e7,e8⟩:=hh.own_shape hr hty hn
 rw[hV]at e1
 obtain⟨rfl,rfl,rfl⟩:g=g'/\n'=n/\c=cap:=by injection e1 with a1 a2 a3;injection a1 with a1;injection a1 with a1;exact⟨a1,a2,a3⟩
 have hul:us.length=es.length:=hf.1.symm
 have hdl:=e8.1
 have hle:n'*k<=c*k:=Nat.mul_le_mul_right _ e3
 have hcl:cur.toList.length=c*k:=by simpa using e5
 have hblk:Blk w g ty cur.toList:=by unfold Blk;rw[e2]
 have hst:=run_storeCells_at (P:=P) g j ty us 0 cur.toList.toArray w hblk (by simp;omega) hone
 simp only[Nat.add_zero]at hst
 have hnew:=setRow_heap w g cur.toList.toArray (cur.toList.take j++us++cur.toList.drop (j+us.length)).toArray ty (0,0) hblk
 refine⟨_,hst,hrel.row_turn (g:=g) hr rfl (by rw[hV];rfl) rfl (DH hty) (fun q hq=>setRow_other w g q _ hq) (by simp) rfl rfl rfl fun D' hk hD=>?_⟩
 have hfx:=e8.stay hk hD
 have hfu:=hf.stay hk hD
 refine⟨xs.take j++us++xs.drop (j+us.length),.inl ⟨hty,by simp;omega,.inr ⟨g,c,_,hV,Nat.zero_le _,hnew,e3,e4,by simp;omega,?_⟩⟩,.inl ⟨DH hty,?_⟩⟩
 ·subst e6
  have hjl:j+us.length<=n'*k:=by omega
  apply List.ext_getElem?
  intro i
  simp only[List.getElem?_take,List.getElem?_append,List.getElem?_drop,List.length_take,List.length_append,hcl]
  split<;>(repeat' split)<;>first | rfl | omega | (congr 1;omega)
 ·have p1:=hfx.part 0 j
  have p2:=hfx.part (j+es.length) (ds.length-(j+es.length))
  simp only[List.drop_zero]at p1
  rw[List.take_of_length_le (l:=ds.drop (j+es.length)) (by simp),List.take_of_length_le (l:=xs.drop (j+es.length)) (by simp;omega)]at p2
  rw[show xs.drop (j+es.length)=xs.drop (j+us.length) by rw[hul]]at p2
  exact(p1.append hfu).append p2
end
end
section
theorem Imp.ptr_ref(t:TypeId)(ds:List Dat):Imp (.part (.one (.ptr t ds))) (.ref ds):=fun w D M V v h=>by
 have h':Lies w D (.ptr t ds) v:=h
 cases h' with
 | ptr b t ds xs hD hb hl hx=>exact⟨b,0,rfl,hD,xs,⟨hl,fun j d x h1 h2=>hx j d x h1 h2⟩,fun j x hj=>by rw[Nat.zero_add,hb.cell];exact hj⟩
section
variable{P:Program}{cx:Cx}{T:TL}{B:BL}{R:RL}{o:Oper}
theorem Y4{x i:Operand}{t:TypeId}{b j k:Nat}{kk:IntKind}{z:Int}(ho:o.op=.indexAddr t x i)(hx:Kn T x (.box b j))(hi:Kn T i (.is (.int kk z)))(hz:0<=z/\z<(P.arrayLen t:Int))(ht:P.underlying t=some (.array (P.arrayLen t) (P.elem t)))(hs:sizeT P (P.elem t)=some k):
  LStep P cx B R o T (.box b (j+z.toNat*k)):=LStep.same fun M V w a hh hk=>by
 have h1:a.eval x=.pointer (some ⟨M b,j,none⟩):=hk x _ (by simp[ho,Op.operands]) hx
 have h2:=(hk i _ (by simp[ho,Op.operands]) hi).is_eq
 have h7:=run_indexAt_array (P:=P) w t ⟨M b,j,none⟩ kk z ht
 rw[if_pos ⟨hz.1,hz.2⟩,CM hs,Result.andThen_ok,KD]at h7
 exact⟨_,by simp[execOp,ho,h1,h2,h7],rfl⟩
theorem Y1{x i:Operand}{t:TypeId}{k:Nat}{ds:List Dat}{kk:IntKind}{z:Int}(ho:o.op=.indexAddr t x i)(hx:Kn T x (.ref ds))(hi:Kn T i (.is (.int kk z)))(hz:0<=z/\z<(P.arrayLen t:Int))(ht:P.underlying t=some (.array (P.arrayLen t) (P.elem t)))(hs:sizeT P (P.elem t)=some k):
  LStep P cx B R o T (.ref (ds.drop (z.toNat*k))):=LStep.same fun M V w a hh hk=>by
 obtain⟨b,f,h1,hD,xs,hf,hc⟩:=hk x _ (by simp[ho,Op.operands]) hx
 have h2:=(hk i _ (by simp[ho,Op.operands]) hi).is_eq
 have h7:=run_indexAt_array (P:=P) w t ⟨b,f,none⟩ kk z ht
 rw[if_pos ⟨hz.1,hz.2⟩,CM hs,Result.andThen_ok,KD]at h7
 refine⟨_,by simp[execOp,ho,h1,h2,h7],b,f+z.toNat*k,rfl,hD,xs.drop (z.toNat*k),⟨by simp[hf.1],fun j d x hd hx=>?_⟩,fun j x hx=>?_⟩
 ·rw[List.getElem?_drop]at hd hx
  exact hf.2 _ d x hd hx
 ·rw[List.getElem?_drop]at hx
  have:=hc _ x hx
  rw[<- this]
  congr 2
  omega
theorem VL{x hi:Operand}{t:TypeId}{k:Nat}{ds es:List Dat}{kk:IntKind}{z:Int}(ho:o.op=.slice t x none (some hi) none)(hx:Kn T x (.ref ds))(hh:Kn T hi (.is (.int kk z)))(hz:0<=z/\z<=(P.arrayLen t:Int))(hpos:0<P.arrayLen t)(ht:P.underlying t=some (.array (P.arrayLen t) (P.elem t)))(hs:sizeT P (P.elem t)=some k)(hl:z.toNat*k<=ds.length)(hes:ds.take (z.toNat*k)=es):
  LStep P cx B R o T (.part (.one (.row k z.toNat es))):=LStep.same fun M V w a _ hkk=>by
 obtain⟨b,f,h1,hD,xs,hf,hc⟩:=hkk x _ (by simp[ho,Op.operands]) hx
 have h2:=(hkk hi _ (by simp[ho,Op.operands]) hh).is_eq
 have h5:=run_sliceAt_array_h (P:=P) w t ⟨b,f,none⟩ ht kk z hz.1 hz.2
 rw[CM hs,Result.andThen_ok]at h5
 refine⟨slicedAt ⟨b,f,none⟩ 0 z.toNat (P.arrayLen t) k,by simp[execOp,ho,h1,h2,h5],?_⟩
 show Lies w _ (.row k z.toNat es) (slicedAt ⟨b,f,none⟩ 0 z.toNat (P.arrayLen t) k)
 have h0:¬ P.arrayLen t=0:=by omega
 unfold slicedAt
 rw[if_neg h0,Nat.zero_mul,KD,Nat.add_zero,Nat.sub_zero,Nat.sub_zero]
 subst hes
 rcases Nat.eq_zero_or_pos z.toNat with hz0 | hz0
 ·rw[hz0,Nat.zero_mul,List.take_zero]
  exact .none k _ _
 ·have hlx:ds.length=xs.length:=hf.1
  refine .row k z.toNat b f (P.arrayLen t) _ (fun j=>xs[j]?.getD undef) hz0 (by omega) (by simp;omega) hD (fun j hj=>?_) fun j d hd=>?_
  ·have hj':j<xs.length:=by simp at hj;omega
   rw[List.getElem?_eq_getElem hj',Option.getD_some]
   exact hc j _ (List.getElem?_eq_getElem hj')
  ·rw[List.getElem?_take]at hd
   split at hd
   ·have hj':j<xs.length:=by
     rw[<- hlx]
     rcases Nat.lt_or_ge j ds.length with h | h
     ·exact h
     ·rw[List.getElem?_eq_none h]at hd;cases hd
    rw[List.getElem?_eq_getElem hj',Option.getD_some]
    exact hf.2 j d _ hd (List.getElem?_eq_getElem hj')
   ·cases hd
def shD(R:RL):IV->Option Dat
 | .part (.one d)=>some d
 | .own r=>(lk r R).map datOf
 | _=>none
def shows(R:RL):List IV->Option (List Dat)
 | []=>some []
 | x::l=>match shD R x,shows R l with | some d,some ds=>some (d::ds) | _,_=>none
theorem OG:∀ {l:List IV} {ds:List Dat},shows R l=some ds->l.length=ds.length
 | [],ds,h=>by
  obtain rfl:=Option.some.inj h
  rfl
 | x::l,ds,h=>by
  unfold shows at h
  split at h
  ·rename_i h2
   obtain rfl:=Option.some.inj h
   simp[OG h2]
  ·cases h
theorem V2:∀ {l:List IV} {ds:List Dat} (_:shows R l=some ds) {j:Nat} {x:IV} {d:Dat},l[j]?=some x->ds[j]?=some d->shD R x=some d
 | [],ds,h,j,x,d,hx,hd=>by simp at hx
 | y::l,ds,h,j,x,d,hx,hd=>by
  unfold shows at h
  split at h
  ·rename_i h1 h2
   obtain rfl:=Option.some.inj h
   cases j with
   | zero=>
    obtain rfl:y=x:=by simpa using hx
    obtain rfl:_=d:=by simpa using hd
    exact h1
   | succ j=>exact V2 h2 (j:=j) (by simpa using hx) (by simpa using hd)
  ·cases h
theorem Q0s(ds:List Dat):shows R (bcs ds)=some ds:=by
 induction ds with
 | nil=>rfl
 | cons d ds ih=>
  show shows R (.part (.one d)::bcs ds)=_
  unfold shows
  rw[ih]
  rfl
theorem MT:∀ {l m:List IV} {ds es:List Dat},shows R l=some ds->shows R m=some es->shows R (l++m)=some (ds++es)
 | [],m,ds,es,h1,h2=>by
  obtain rfl:=Option.some.inj h1
  exact h2
 | x::l,m,ds,es,h1,h2=>by
  unfold shows at h1
  split at h1
  ·rename_i h3 h4
   obtain rfl:=Option.some.inj h1
   show shows R (x::(l++m))=_
   unfold shows
   rw[h3,MT h4 h2]
   rfl
  ·cases h1
def Far(y y':IV):Prop:=∀ (w:World) (D:Nat->Prop) (M:Nat->Nat) (V:Nat->Value) (w':World) (D':Nat->Prop) (M':Nat->Nat) (V':Nat->Value) (v:Value),VR w D M V y v->VR w' D' M' V' y' v
theorem Far.is(v:Value):Far (.is v) (.is v):=fun w D M V w' D' M' V' u h=>by
 obtain rfl:=VR.is_eq h
 exact .cell _
theorem Q5k{w w':World}{D D':Nat->Prop}(cs:List Value){u:Value}(h:PFit w D (.many (cs.map .cell)) u):PFit w' D' (.many (cs.map .cell)) u:=by
 obtain⟨xs,h1,h2⟩:=h
 obtain rfl:=h2.cells
 exact⟨xs,h1,.of_cells _ _ _⟩
theorem Far.many1(cs:List Value)(v:Value):Far (.tup [.many (cs.map .cell),.one (.cell v)]) (.tup [.many (cs.map .cell),.one (.cell v)]):=fun w D M V w' D' M' V' u h=>by
 obtain⟨vs,h1,h2⟩:=h
 match vs,h1,h2 with
 | [a,b],h1,h2=>
  obtain rfl:=Lies.cell_eq h2.2.1
  exact⟨[a,b],h1,Q5k cs h2.1,.cell _,trivial⟩
def Q6P(n:Nat)(_ v:Value):Prop:=∃ p c,v=.slice p n c
theorem Far.row(r k n:Nat)(ds:List Dat):Far (.part (.one (.row k n ds))) (.via r (Q6P n)):=fun w D M V w' D' M' V' u h=>by
 obtain⟨p,c,h1⟩:=J4 h
 exact⟨p,c,h1⟩
theorem Q2o{x:Operand}{t:TypeId}{r n:Nat}(ho:o.op=.call { callee:=.builtin .len,args := #[x],argTypes := #[t] })(hx:Kn T x (.via r (Q6P n)))(ht:P.underlying t=some (.slice (P.elem t))):
  LStep P cx B R o T (.is (.int .i64 (n:Int))):=LStep.same fun M V w a _ hk=>by
 obtain⟨p,c,h1⟩:Q6P n (V r) (a.eval x):=hk x _ (by simp[ho,Op.operands,Call.operands]) hx
 exact⟨_,by simp[execOp,ho,h1,resolve,invoke,builtin,run_len_slice w t _ p n c ht,goInt],.cell _⟩
theorem Q0G{f:FuncId}{x:Operand}{xs:List Operand}{ts:Array TypeId}{b:Nat}{bx:Bx}{ds:List Dat}{ps:List Part}{y y':IV}(ho:o.op=.call { callee:=.value (.func f),args:=(x::xs).toArray,argTypes:=ts })(hc:BU P f=true)(hf:EF P cx.gl f (.one (.ptr bx.ty ds)::ps) y)(hx:Kn T x (.box b 0))(hb:lk b B=some bx)(hm:shows R bx.cs=some ds)(hxs:KnA T xs ps)(hy:Far y y'):LStep P cx B R o T y':=fun M V w a hh ht=>by
 have hkk:∀ y z,y∈x::xs->Kn T y z->VR w (Dc cx B R M V w) M V z (a.eval y):=fun y z hm hkx=>hkx w _ M V a fun t z' e hz=>ht t z' (by
  subst e
  rw[ho]
  simpa[Op.operands,Call.operands]using hm) hz
 have hrun:(execOp a.eval o).run P w=.ok (.enter f ((x::xs).map a.eval).toArray) w:=by
  have he:a.eval (.func f)=.func (.func f) #[] #[]:=rfl
  simp[execOp,ho,resolve,he,Deferred.ofValue,invoke,C2 hc]
 rw[hrun]
 have hxv:a.eval x=.pointer (some ⟨M b,0,none⟩):=hkk x _ (by simp) hx
 obtain⟨hown,cells,hblk,hfit⟩:=hh.box b bx hb
 have hlt:=hblk.lt
 have hD:∀ g,Dc cx B R M V w g->g<w.heap.size:=fun g hg=>hh.dlt hg
 have hps:PsFit w (Dc cx B R M V w) ps (xs.map a.eval):=hxs.fit fun y z hm hkx=>hkk y z (by simp[hm]) hkx
 let D':Nat->Prop:=fun g=>Dc cx B R M V w g\/g=M b \/ ∃ r x,lk r R=some x/\x.fz=false/\obs x.ty x.ds (V r) g
 have hk:=Keeps.refl (Dc cx B R M V w) w
 have hDD:∀ g,Dc cx B R M V w g->D' g:=fun g h=>.inl h
 have hD':∀ g,D' g->g<w.heap.size:=fun g hg=>by
  rcases(show Dc cx B R M V w g\/g=M b \/ ∃ r x,lk r R=some x/\x.fz=false/\obs x.ty x.ds (V r) g from hg)with hg | rfl | ⟨r,x,h1,h2,h3⟩
  ·exact hD g hg
  ·exact hlt
  ·have h4:=hh.row r x h1
   rw[h2]at h4
   exact Gx.lt h4 g h3
 have hcell:∀ (j:Nat) d u,ds[j]?=some d->cells[j]?=some u->Lies w D' d u:=fun j d u hd hu=>by
  have hlen:=OG hm
  have hj:j<bx.cs.length:=by
   rw[hlen]
   rcases Nat.lt_or_ge j ds.length with h | h
   ·exact h
   ·rw[List.getElem?_eq_none h]at hd;cases hd
  have hxj:=List.getElem?_eq_getElem hj
  have h1:=V2 hm hxj hd
  have h2:=(hfit.2 j _ u hxj hu).1
  generalize bx.cs[j]=q at h1 h2
  cases q with
  | part p=>
   cases p with
   | one e=>
    obtain rfl:=Option.some.inj h1
    exact Lies.stay h2 hk hDD
   | many es=>cases h1
  | own r=>
   have h3:u=V r:=h2
   subst h3
   cases hr:lk r R with
   | none=>simp[shD,hr]at h1
   | some y=>
    have:datOf y=d:=by simpa[shD,hr]using h1
    subst this
    have h4:=hh.row r y hr
    cases hfz:y.fz with
    | true=>
     rw[if_pos hfz]at h4
     exact h4.stay hk hDD
    | false=>
     rw[hfz]at h4
     exact Gx.frozen (show Gx w (Dc cx B R M V w) 0 y.ty y.k (V r) y.n y.ds from h4) hDD fun g hg=>.inr (.inr ⟨r,y,hr,hfz,hg⟩)
  | _=>cases h1
 have hp0:PFit w D' (.one (.ptr bx.ty ds)) (a.eval x):=by
  rw[hxv]
  exact .ptr (M b) bx.ty ds cells (.inr (.inl rfl)) hblk ((OG hm).symm.trans hfit.1) hcell
 refine⟨rfl,(hf w D' (a.eval x::xs.map a.eval) hD' hh.glok ⟨hp0,hps.stay hk hDD⟩).mono fun e w' ⟨v,y0,h1,h2,h3,h4⟩=>?_⟩
 subst h2
 exact⟨v,h1,h3,hy _ _ _ _ _ _ _ _ _ (h4 M V)⟩
variable{ops:Array Oper}{Q:Exit->Act->World->Prop}{l:List Oper}
theorem YI{o1 o2:Oper}{d1 d2:Nat}{t t2:TypeId}{x1 x2:Operand}{i1 i2 p1 p2 r1 r2:Nat}{places:List (Nat×Nat)}{zs:List Value}(b:Nat){z1 z2:Rw}
  (g1:o1.guard=none) (e1:o1.dst=some d1) (n1:Nat.blt d1 cx.n=true) (q1:o1.op=.build t #[(i1,x1),(i2,x2)]) (hpl:CF P t=some places) (hz:C5 P t=some zs) (hp1:places[i1]?=some (p1,1)) (hp2:places[i2]?=some (p2,1)) (hl1:p1<zs.length) (hl2:p2<zs.length)
  (hx1:Kn T x1 (.own r1)) (hx2:Kn T x2 (.own r2)) (hr1:lk r1 R=some z1) (hr2:lk r2 R=some z2) (hf1:z1.fz=false) (hf2:z2.fz=false)
  (g2:o2.guard=none) (e2:o2.dst=some d2) (n2:Nat.blt d2 cx.n=true) (q2:o2.op=.box t2 (.tmp d1)) (h1:zs.all (·.oneCell')=true)
  (hpn:cx.pn.all (fun c => !Nat.beq c b)=true) (hT:OO b T=true) (hB:MM b B=true)
  (hE:E cx ((d2,.box b 0)::(d1,.junk)::T) ((b,⟨t2,((zs.map IV.is).set p1 (.own r1)).set p2 (.own r2)⟩)::B) R (wpList P ops Q l)):E cx T B R (wpList P ops Q (o1::o2::l)):=fun M V a w hr=>by
 have hv1:a.eval x1=V r1:=hx1 w (Dc cx B R M V w) M V a fun t z _ hz=>hr.tmp t z hz
 have hv2:a.eval x2=V r2:=hx2 w (Dc cx B R M V w) M V a fun t z _ hz=>hr.tmp t z hz
 have hone:∀ r z,lk r R=some z->z.fz=false->(V r).oneCell'=true:=fun r z hz hf=>by
  have h4:=hr.heap.row r z hz
  rw[hf]at h4
  obtain⟨ys,h5,_⟩:Gx w (Dc cx B R M V w) 0 z.ty z.k (V r) z.n z.ds:=h4
  rcases h5 with⟨_,h5⟩ | ⟨_,g,es,c,h5,_⟩ | ⟨_,h5⟩
  ·rcases h5.2 with⟨h6,_⟩ | ⟨g,cap,cur,h6,_⟩<;>(rw[h6];rfl)
  ·rw[h5];rfl
  ·rcases h5.2 with⟨h6,_⟩ | ⟨g,cap,cur,h6,_⟩<;>(rw[h6];rfl)
 have hone1:=hone r1 z1 hr1 hf1
 have hone2:=hone r2 z2 hr2 hf2
 cases hu:P.underlying t with
 | none=>simp[CF,hu]at hpl
 | some dd=>
  cases dd<;>simp only[CF,hu]at hpl<;>try cases hpl
  rename_i fs
  cases hi:P.info? t with
  | none=>simp[C5,hi]at hz
  | some it=>
   cases hzz:it.zero with
   | none=>simp[C5,hi,hzz]at hz
   | some zv=>
    have hzc:zv.cells.toList=zs:=by simpa[C5,hi,hzz]using hz
    have hsz:zv.cells.size=zs.length:=by rw[<- hzc];simp
    have hcl:∀ v:Value,v.oneCell'=true->v.cells = #[v]:=fun v hv=>by
     revert hv
     cases v<;>intro h<;>first | rfl | cases h
    let out:=(zv.cells.setIfInBounds p1 (V r1)).setIfInBounds p2 (V r2)
    have hout:out.toList=(zs.set p1 (V r1)).set p2 (V r2):=by simp[out,hzc]
    have hb:P.built t [(i1,V r1),(i2,V r2)]=some out:=by
     unfold Program.built
     rw[hi,hu]
     simp only[hzz,hpl]
     have k1:=hcl _ hone1
     have k2:=hcl _ hone2
     have q1':places.toArray[i1]?=some (p1,1):=by simpa using hp1
     have q2':places.toArray[i2]?=some (p2,1):=by simpa using hp2
     simp only[Instr.fill,q1',q2',k1,k2]
     have hl1':¬ zv.cells.size<=p1:=by omega
     have hl2':¬ zv.cells.size<=p2:=by omega
     simp[hl1',hl2',out]
     omega
    have hrun1:=run_build (P:=P) w t #[(i1,V r1),(i2,V r2)] out (by simpa using hb)
    have hrun:(execOp a.eval o1).run P w=.ok (.value (.agg out)) w:=by
     have hmap:(#[(i1,x1),(i2,x2)]:Array (Nat×Operand)).map (fun x=>(x.1,a.eval x.2)) = #[(i1,V r1),(i2,V r2)]:=by simp[hv1,hv2]
     unfold execOp
     simp only[q1]
     rw[hmap,Sem.run_bind,hrun1]
     rfl
    refine wpList_plain g1 fun K hK=>?_
    unfold Oper.wp
    rw[hrun]
    simp only[Oper.upon,e1]
    refine hK _ _ ?_
    have hr1':Rel cx ((d1,.junk)::T) B R M V (a.put (some d1) (.agg out)) w:=hr.put (Below.refl _ _) (C0 n1) trivial
    have v1:(a.put (some d1) (.agg out)).eval (.tmp d1)=.agg out:=by rw[QD (by rw[hr.size];exact C0 n1),if_pos rfl]
    generalize a.put (some d1) (.agg out)=a1 at hr1' v1 ⊢
    refine wpList_plain g2 fun K hK=>?_
    have hc:CFit w (Dc cx B R M V w) M V (((zs.map IV.is).set p1 (.own r1)).set p2 (.own r2)) out.toList:=⟨by rw[hout];simp,fun j y v hy hvv=>by
     rw[hout]at hvv
     rw[List.getElem?_set]at hy hvv
     split at hy
     ·rename_i h
      rw[if_pos h]at hvv
      split at hy
      ·obtain rfl:=Option.some.inj hy
       rw[if_pos (by simpa using hl2)]at hvv
       obtain rfl:=Option.some.inj hvv
       exact⟨rfl,hone2⟩
      ·cases hy
     ·rename_i h
      rw[if_neg h]at hvv
      rw[List.getElem?_set]at hy hvv
      split at hy
      ·rename_i h'
       rw[if_pos h']at hvv
       split at hy
       ·obtain rfl:=Option.some.inj hy
        rw[if_pos hl1]at hvv
        obtain rfl:=Option.some.inj hvv
        exact⟨rfl,hone1⟩
       ·cases hy
      ·rename_i h'
       rw[if_neg h']at hvv
       exact AR zs hy hvv h1⟩
    obtain⟨M',hr'⟩:=hr1'.alloc b t2 hpn (by simp[OO,IV.nob];simpa[OO]using hT) hB (by
     rw[List.all_eq_true]
     intro y hy
     rcases List.mem_or_eq_of_mem_set hy with hy | rfl
     ·rcases List.mem_or_eq_of_mem_set hy with hy | rfl
      ·rw[List.mem_map]at hy
       obtain⟨z,_,rfl⟩:=hy
       rfl
      ·rfl
     ·rfl) hc (d:=d2) (C0 n2)
    have:=hK _ _ (hE M' V _ _ hr')
    unfold Oper.wp execOp
    simp only[q2,v1,Sem.run_bind]
    simp[Instr.box,newVar,newRow,Value.cells,Oper.upon,e2]
    simpa using this
theorem FB{K:Act->World->Prop}(b j r:Nat){bx:Bx}{y:Rw}{is:List IV}(hb:lk b B=some bx)(hj:bx.cs[j]?=some (.own r))(hy:lk r R=some y)(hf:y.fz=false)(his:bx.cs.set j (.part (.one (.map y.n y.ds)))=is)(h:E cx T ((b,⟨bx.ty,is⟩)::B) ((r,⟨y.ty,y.k,y.n,y.ds,true⟩)::R) K)(hty:Nat.blt y.ty 1000000=false:=by rfl)(hty2:Nat.blt y.ty 2000000=true:=by rfl):E cx T B R K:=fun M V a w hr=>by
 have h2:=hr.freeze r hy hf
 obtain⟨_,cs,a2,a3⟩:=h2.heap.box b bx hb
 refine h M V a w (h2.set hb a2 (fun _ _=>rfl) rfl rfl rfl rfl ⟨by rw[<- his];simp[a3.1],fun i z u hz hu=>?_⟩)
 rw[<- his,List.getElem?_set]at hz
 split at hz
 ·rename_i hij
  subst hij
  split at hz
  ·obtain rfl:=Option.some.inj hz
   have h3:=h2.heap.row r _ (B5 _ _ _)
   rw[if_pos rfl,O8 (x:=⟨y.ty,y.k,y.n,y.ds,true⟩) hty hty2]at h3
   have h4:=a3.2 j _ u hj hu
   have h5:u=V r:=h4.1
   refine⟨?_,h4.2⟩
   rw[h5]
   exact h3
  ·cases hz
 ·exact a3.2 i z u hz hu
end
end
section
section
variable{P:Program}{cx:Cx}{T:TL}{B:BL}{R:RL}{ops:Array Oper}{Q:Exit->Act->World->Prop}{deps:List (List Nat)}
def AnyE(P:Program)(cx:Cx)(T:TL)(B:BL)(R:RL)(ops:Array Oper)(Q:Exit->Act->World->Prop)(fuel:Nat)(L:List Bool):List Nat->Prop
 | []=>True
 | i::is=>E cx T B R (wpOp P ops Q i (wpAny P .any ops Q fuel (L.set i true).toArray))/\AnyE P cx T B R ops Q fuel L is
theorem AnyE.get{fuel:Nat}{L:List Bool}:∀ {is:List Nat} (_:AnyE P cx T B R ops Q fuel L is) {i:Nat},i∈is->E cx T B R (wpOp P ops Q i (wpAny P .any ops Q fuel (L.set i true).toArray))
 | j::is,h,i,hi=>by
  rcases List.mem_cons.1 hi with rfl | hi
  ·exact h.1
  ·exact AnyE.get h.2 hi
 | [],_,_,hi=>by cases hi
end
end
section
def UG(L:List Bool):List (Nat×Nat×IV)->TL
 | []=>[]
 | (i,s,y)::es=>bif L.getD i false then(s,y)::UG L es else UG L es
def Q3V(L:List Bool):List Nat->List (Nat×Nat×Bx)->BL
 | _,[]=>[]
 | sn,(i,s,y)::es=>bif L.getD i false && !(sn.any fun c=>Nat.beq c s)then(s,y)::Q3V L (s::sn) es else Q3V L sn es
def Q1U(L:List Bool)(es:List (Nat×Nat×Bx)):BL:=Q3V L [] es
section
variable{P:Program}{cx:Cx}{T0:TL}{B0:BL}{R:RL}{ops:Array Oper}{Q:Exit->Act->World->Prop}{deps:List (List Nat)}{es:List (Nat×Nat×IV)}{bs:List (Nat×Nat×Bx)}
def AllSteps(P:Program)(cx:Cx)(T0:TL)(B0:BL)(R:RL)(ops:Array Oper)(Q:Exit->Act->World->Prop)(es:List (Nat×Nat×IV))(bs:List (Nat×Nat×Bx)):List (List Bool×Nat)->Prop
 | []=>True
 | (L,i)::r=>(∀ K,E cx (T0++UG (L.set i true) es) (Q1U (L.set i true) bs++B0) R K->E cx (T0++UG L es) (Q1U L bs++B0) R (wpOp P ops Q i K))/\AllSteps P cx T0 B0 R ops Q es bs r
theorem AllSteps.get:∀ {st:List (List Bool×Nat)} (_:AllSteps P cx T0 B0 R ops Q es bs st) {L:List Bool} {i:Nat},(L,i)∈st -> ∀ K,E cx (T0++UG (L.set i true) es) (Q1U (L.set i true) bs++B0) R K->E cx (T0++UG L es) (Q1U L bs++B0) R (wpOp P ops Q i K)
 | (L',j)::r,h,L,i,hm=>by
  rcases List.mem_cons.1 hm with e | hm
  ·injection e with e1 e2
   subst e1 e2
   exact h.1
  ·exact AllSteps.get h.2 hm
 | [],_,_,_,hm=>by cases hm
theorem AnyE.of{T:TL}{B:BL}{fuel:Nat}{L:List Bool}:∀ {is:List Nat},(∀ i∈is,E cx T B R (wpOp P ops Q i (wpAny P .any ops Q fuel (L.set i true).toArray)))->AnyE P cx T B R ops Q fuel L is
 | [],_=>trivial
 | i::is,h=>⟨h i List.mem_cons_self,AnyE.of fun j hj=>h j (List.mem_cons_of_mem _ hj)⟩
end
end
section
section
variable{P:Program}
variable{cx:Cx}{T:TL}{B:BL}{R:RL}{M:Nat->Nat}{V:Nat->Value}{o:Oper}
theorem EU{x:Operand}{y z:IV}(h:Kn T x y)(hi:Imp y z):Kn T x z:=fun w D M V a hT=>hi w D M V _ (h w D M V a hT)
theorem EQ{x:Operand}{t:TypeId}{f off:Nat}{ds es:List Dat}(ho:o.op=.fieldAddr t x f)(hx:Kn T x (.ref ds))(h:BP P t f=some off)(he:ds.drop off=es):LStep P cx B R o T (.ref es):=he▸AF ho hx h
theorem W4{x i:Operand}{t:TypeId}{k:Nat}{ds es:List Dat}{kk:IntKind}{z:Int}(ho:o.op=.indexAddr t x i)(hx:Kn T x (.ref ds))(hi:Kn T i (.is (.int kk z)))(hz:0<=z/\z<(P.arrayLen t:Int))(ht:P.underlying t=some (.array (P.arrayLen t) (P.elem t)))(hs:sizeT P (P.elem t)=some k)(he:ds.drop (z.toNat*k)=es):
  LStep P cx B R o T (.ref es):=he▸Y1 ho hx hi hz ht hs
variable{α:Type}{kf:α->Value}[DecidableEq α]
theorem XX{x i:Operand}{t kt et:TypeId}{n:Nat}{ps:List (α×Dat)}{z:Value}(c:α)(m:Option Dat)(hm:DN c ps=m)(ho:o.op=.lookup t x i true)(hx:Kn T x (.part (.one (.map n (mds kf ps)))))(hi:Kn T i (.is (kf c)))(K:KeyF P kt kf)(ht:P.underlying t=some (.map kt et))(hz:NN P et=some z):
  LStep P cx B R o T (.tup [.one (m.getD (.cell z)),.one (.cell (.bool m.isSome))]):=hm▸Q6i ho hx hi K ht hz
theorem Q24{x i:Operand}{t kt et:TypeId}{n:Nat}{ps:List (α×Dat)}{z:Value}{d:Dat}(c:α)(hm:(DN c ps).getD (.cell z)=d)(ho:o.op=.lookup t x i false)(hx:Kn T x (.part (.one (.map n (mds kf ps)))))(hi:Kn T i (.is (kf c)))(K:KeyF P kt kf)(ht:P.underlying t=some (.map kt et))(hz:NN P et=some z):
  LStep P cx B R o T (.part (.one d)):=hm▸Q49 ho hx hi K ht hz
end
def DQ{α:Type}(L:List Bool):List Nat->List (Nat×Nat×α)->List (Nat×α)
 | _,[]=>[]
 | sn,(i,s,y)::es=>bif L.getD i false && !(sn.any fun c=>Nat.beq c s)then(s,y)::DQ L (s::sn) es else DQ L sn es
section
variable{P:Program}{cx:Cx}{T0:TL}{B0:BL}{R0:RL}{ops:Array Oper}{Q:Exit->Act->World->Prop}{deps:List (List Nat)}{es:List (Nat×Nat×IV)}{bs:List (Nat×Nat×Bx)}{rs:List (Nat×Nat×Rw)}
def AllStepsR(P:Program)(cx:Cx)(T0:TL)(B0:BL)(R0:RL)(ops:Array Oper)(Q:Exit->Act->World->Prop)(es:List (Nat×Nat×IV))(bs:List (Nat×Nat×Bx))(rs:List (Nat×Nat×Rw)):List (List Bool×Nat)->Prop
 | []=>True
 | (L,i)::r=>(∀ K,E cx (T0++DQ (L.set i true) [] es) (DQ (L.set i true) [] bs++B0) (DQ (L.set i true) [] rs++R0) K->E cx (T0++DQ L [] es) (DQ L [] bs++B0) (DQ L [] rs++R0) (wpOp P ops Q i K))/\AllStepsR P cx T0 B0 R0 ops Q es bs rs r
theorem AllStepsR.get:∀ {st:List (List Bool×Nat)} (_:AllStepsR P cx T0 B0 R0 ops Q es bs rs st) {L:List Bool} {i:Nat},(L,i)∈st -> ∀ K,E cx (T0++DQ (L.set i true) [] es) (DQ (L.set i true) [] bs++B0) (DQ (L.set i true) [] rs++R0) K->E cx (T0++DQ L [] es) (DQ L [] bs++B0) (DQ L [] rs++R0) (wpOp P ops Q i K)
 | (L',j)::r,h,L,i,hm=>by
  rcases List.mem_cons.1 hm with e | hm
  ·injection e with e1 e2
   subst e1 e2
   exact h.1
  ·exact AllStepsR.get h.2 hm
 | [],_,_,_,hm=>by cases hm
end
end
section
inductive Alike3 (P:Program) (t:TypeId):Value->Value->Prop where
 | int (k k':IntKind) (a b:Int) (h:P.underlying t=some (.int k')):Alike3 P t (.int k a) (.int k b)
 | str (a b:List UInt8) (h:P.underlying t=some .string):Alike3 P t (.string (str a)) (.string (str b))
 | bool (a b:Bool) (h:P.underlying t=some .bool):Alike3 P t (.bool a) (.bool b)
def Q1O(P:Program):Nat->List Field->List Value->List Value->Prop
 | _,[],[],[]=>True
 | i,f::fs,a::aa,b::bs=>f.offset=i/\f.name ≠ "_" /\ Alike3 P f.type a b/\Q1O P (i+1) fs aa bs
 | _,_,_,_=>False
theorem LH{P:Program}{t:TypeId}{xs:Array Value}{i:Nat}{v:Value}(w:World)(ht:(P.underlying t=some .string\/P.underlying t=some .bool) \/ ∃ k,P.underlying t=some (.int k))(h:xs[i]?=some v):(part t xs i).run P w=.ok v w:=by
 rcases ht with(hu | hu) | ⟨k,hu⟩<;>simp[part,isAgg,run_underlying hu,h]
theorem OD{P:Program}{t:TypeId}{a b:Value}(d:Nat)(w:World)(h:Alike3 P t a b):∃ x,(Op.equalIn (d+1) t a b).run P w=.ok x w/\(x=true↔a=b):=by
 cases h with
 | int k k' a b hu=>exact⟨_,run_equalIn_int w d t k k' a b hu,by simp⟩
 | bool a b hu=>exact⟨_,run_equalIn_bool' w d t a b hu,by simp⟩
 | str a b hu=>exact⟨_,run_equalIn_string w d t _ _ hu,by rw[CH,CH,beq_iff_eq];constructor<;>intro h<;>first | (rw[h]) | (injection h with h;have:=congrArg ByteArray.toList h;rwa [CH,CH]at this)⟩
theorem Alike3.plain{P:Program}{t:TypeId}{a b:Value}(h:Alike3 P t a b):(P.underlying t=some .string\/P.underlying t=some .bool) \/ ∃ k,P.underlying t=some (.int k):=by
 cases h with
 | int k k' a b hu=>exact .inr ⟨k',hu⟩
 | str a b hu=>exact .inl (.inl hu)
 | bool a b hu=>exact .inl (.inr hu)
theorem H9{P:Program}(d:Nat)(w:World)(xs ys:List Value):∀ (fs:List Field) (i:Nat) (aa bs:List Value),Q1O P i fs aa bs->xs.drop i=aa->ys.drop i=bs ->
  ∃ x,(Op.eqFields (d+1) xs.toArray ys.toArray fs).run P w=.ok x w/\(x=true↔aa=bs)
 | [],i,[],[],_,_,_=>⟨true,by simp[Op.eqFields],by simp⟩
 | f::fs,i,a::aa,b::bs,h,hx,hy=>by
  obtain⟨h1,h2,h3,h4⟩:=h
  have hx1:xs[i]?=some a:=by rw[<- Nat.add_zero i,<- List.getElem?_drop,hx];rfl
  have hy1:ys[i]?=some b:=by rw[<- Nat.add_zero i,<- List.getElem?_drop,hy];rfl
  have hx2:xs.drop (i+1)=aa:=by rw[<- List.drop_drop,hx];rfl
  have hy2:ys.drop (i+1)=bs:=by rw[<- List.drop_drop,hy];rfl
  obtain⟨x,e1,e2⟩:=OD d w h3
  obtain⟨y,e3,e4⟩:=H9 d w xs ys fs (i+1) aa bs h4 hx2 hy2
  subst h1
  simp only[Op.eqFields,if_pos h2,Sem.run_bind,LH (P:=P) (xs:=xs.toArray) w h3.plain (by simpa using hx1),LH (P:=P) (xs:=ys.toArray) w h3.plain (by simpa using hy1),e1,Result.andThen_ok]
  cases x
  ·refine⟨false,by simp,?_⟩
   simp only[Bool.false_eq_true,false_iff,List.cons.injEq,not_and]
   intro h
   exact absurd (e2.2 h) (by decide)
  ·refine⟨y,by simpa using e3,?_⟩
   rw[e4,List.cons.injEq]
   exact⟨fun h=>⟨e2.1 rfl,h⟩,fun h=>h.2⟩
 | [],_,_::_,_,h,_,_=>h.elim
 | [],_,[],_::_,h,_,_=>h.elim
 | _::_,_,[],_,h,_,_=>h.elim
 | _::_,_,_::_,[],h,_,_=>h.elim
def QK(P:Program):Nat->List Field->List Nat->Bool
 | _,[],[]=>true
 | i,f::fs,k::ks=>Nat.beq f.offset i && !(f.name == "_")&&(match P.underlying f.type with | some .string=>Nat.beq k 1 | some (.int _)=>Nat.beq k 0 | some .bool=>Nat.beq k 2 | _=>false)&&QK P (i+1) fs ks
 | _,_,_=>false
inductive KindsOf3:List Nat->List Value->List Value->Prop where
 | nil:KindsOf3 [] [] []
 | str (a b:List UInt8) {ks:List Nat} {aa bs:List Value} (h:KindsOf3 ks aa bs):KindsOf3 (1::ks) (.string (str a)::aa) (.string (str b)::bs)
 | int (k:IntKind) (a b:Int) {ks:List Nat} {aa bs:List Value} (h:KindsOf3 ks aa bs):KindsOf3 (0::ks) (.int k a::aa) (.int k b::bs)
 | bool (a b:Bool) {ks:List Nat} {aa bs:List Value} (h:KindsOf3 ks aa bs):KindsOf3 (2::ks) (.bool a::aa) (.bool b::bs)
theorem NH{P:Program}:∀ {fs:List Field} {i:Nat} {ks:List Nat} {aa bs:List Value},QK P i fs ks=true->KindsOf3 ks aa bs->Q1O P i fs aa bs
 | [],_,_,_,_,_,.nil=>trivial
 | f::fs,i,_,_,_,h,.str a b hk=>by
  simp only[QK,Bool.and_eq_true]at h
  obtain⟨⟨⟨h1,h2⟩,h3⟩,h4⟩:=h
  refine⟨Nat.eq_of_beq_eq_true h1,fun e=>by rw[e]at h2;exact absurd h2 (by decide),?_,NH h4 hk⟩
  cases hu:P.underlying f.type with
  | none=>rw[hu]at h3;cases h3
  | some d=>cases d<;>rw[hu]at h3<;>first | exact .str a b hu | (cases h3;done) | exact absurd h3 (by decide)
 | f::fs,i,_,_,_,h,.int k a b hk=>by
  simp only[QK,Bool.and_eq_true]at h
  obtain⟨⟨⟨h1,h2⟩,h3⟩,h4⟩:=h
  refine⟨Nat.eq_of_beq_eq_true h1,fun e=>by rw[e]at h2;exact absurd h2 (by decide),?_,NH h4 hk⟩
  cases hu:P.underlying f.type with
  | none=>rw[hu]at h3;cases h3
  | some d=>cases d<;>rw[hu]at h3<;>first | exact .int k _ a b hu | (cases h3;done) | exact absurd h3 (by decide)
 | f::fs,i,_,_,_,h,.bool a b hk=>by
  simp only[QK,Bool.and_eq_true]at h
  obtain⟨⟨⟨h1,h2⟩,h3⟩,h4⟩:=h
  refine⟨Nat.eq_of_beq_eq_true h1,fun e=>by rw[e]at h2;exact absurd h2 (by decide),?_,NH h4 hk⟩
  cases hu:P.underlying f.type with
  | none=>rw[hu]at h3;cases h3
  | some d=>cases d<;>rw[hu]at h3<;>first | exact .bool a b hu | (cases h3;done) | exact absurd h3 (by decide)
 | [],_,_,_,_,h,.str _ _ _=>by cases h
 | [],_,_,_,_,h,.int _ _ _ _=>by cases h
 | [],_,_,_,_,h,.bool _ _ _=>by cases h
 | _::_,_,_,_,_,h,.nil=>by cases h
section
variable{P:Program}{cx:Cx}{T:TL}{B:BL}{R:RL}{o:Oper}
theorem Q45{t:TypeId}{cs ds:List Value}(ht:P.underlying t=some (.struct (P.fieldsOf t)))(hp:P.stoodInHeld t=false)(hm:P.eqGuardType P.depth t=false)(hf:Q1O P 0 (P.fieldsOf t).toList cs ds):GO P .neq t (.agg cs.toArray) (.agg ds.toArray) (.bool (!Q08 (cs=ds))):=fun x y w=>by
 obtain⟨z,h1,h2⟩:=H9 9998 w cs ds _ 0 cs ds hf rfl rfl
 rw[Sem.run_bind,run_eqGuard_agg w .neq t x y _ _ hm,Result.andThen_ok,run_neq_struct,run_equalIn_agg w 9999 t _ _ ht hp,h1,Result.andThen_ok,Q5D h2]
end
end
section
theorem KB{w:World}{D:Nat->Prop}:∀ {vs us:List Value},PsFit w D (vs.map fun v=>.one (.cell v)) us->us=vs
 | [],[],_=>rfl
 | v::vs,u::us,h=>by
  obtain rfl:=Lies.cell_eq h.1
  rw[KB h.2]
 | [],_::_,h=>h.elim
 | _::_,[],h=>h.elim
theorem MC(w:World)(D:Nat->Prop):∀ vs:List Value,PsFit w D (vs.map fun v=>.one (.cell v)) vs
 | []=>trivial
 | v::vs=>⟨.cell v,MC w D vs⟩
theorem UF{P:Program}{gls:List (Nat×List Value)}{f:FuncId}(vs:List Value){Y:IV->Prop}
  (h:∀ w,WX gls w->Calls P f vs.toArray w fun e w'=>Below w.heap.size w w'/\((∃ v,Y (.is v)/\e=.returned v) \/ ∃ rs:List Value,Y (.tup (rs.map fun v=>.one (.cell v)))/\e=.returned (.tuple rs.toArray))):EFx P gls f (vs.map fun v=>.one (.cell v)) Y:=fun w D us hD hG hp=>by
 obtain rfl:=KB hp
 refine(h w hG).mono fun e w' ⟨hb,hr⟩=>?_
 rcases hr with⟨v,hy,he⟩ | ⟨rs,hy,he⟩
 ·exact⟨v,_,he,hy,hb,fun M V=>.cell v⟩
 ·exact⟨_,_,he,hy,hb,fun M V=>⟨rs,rfl,MC _ _ rs⟩⟩
theorem Q1r{P:Program}{gls:List (Nat×List Value)}{f:FuncId}(vs:List Value)(r:Value)
  (h:∀ w,WX gls w->Calls P f vs.toArray w fun e w'=>e=.returned r/\Below w.heap.size w w'):EF P gls f (vs.map fun v=>.one (.cell v)) (.is r):=
 UF vs fun w hG=>(h w hG).mono fun e w' ⟨h1,h2⟩=>⟨h2,.inl ⟨r,rfl,h1⟩⟩
section
variable{P:Program}{cx:Cx}{T:TL}{B:BL}{R:RL}{o:Oper}
end
end
section
def Q8a(P:Program)(Q:World->Prop)(gls:List (Nat×List Value))(f:FuncId)(ps:List Part)(Y:IV->Prop):Prop:=
 ∀ (w:World) (D:Nat->Prop) (vs:List Value),(∀ g,D g->g<w.heap.size)->WX gls w->Q w->PsFit w D ps vs->Calls P f vs.toArray w (YU w D Y)
theorem EFx.q{P:Program}{Q:World->Prop}{gls gls':List (Nat×List Value)}{f:FuncId}{ps:List Part}{Y:IV->Prop}(h:EFx P gls f ps Y)(hs:∀ x,x∈gls->x∈gls'):Q8a P Q gls' f ps Y:=fun w D vs hD hG _ hp=>h w D vs hD (fun g cs hg=>hG g cs (hs _ hg)) hp
theorem EF.up{P:Program}{gls:List (Nat×List Value)}{f:FuncId}{ps:List Part}{y:IV}(h:EF P [] f ps y):EF P gls f ps y:=EFx.more h fun x hx=>(by cases hx)
section
variable{P:Program}{cx:Cx}{T:TL}{B:BL}{R:RL}{o:Oper}{Q:World->Prop}
end
end
section
abbrev atv(r:Nat)(v0:Value):IV:=.via r fun a u=>u=a/\a=v0
abbrev LQ(r:Nat)(v0:Value):IV:=.via r fun a _=>a=v0
section
variable{P:Program}{cx:Cx}{T:TL}{B:BL}{R:RL}{M:Nat->Nat}{V:Nat->Value}{o:Oper}
theorem VR.atv_of{w:World}{D:Nat->Prop}{r:Nat}{v0 v:Value}(h:VR w D M V (.is v0) v)(hp:V r=v0):VR w D M V (atv r v0) v:=by
 have h1:v=v0:=Lies.cell_eq h
 exact⟨h1.trans hp.symm,hp⟩
theorem Q3I{w:World}{D:Nat->Prop}{k m:Nat}{es:List Dat}{u:Value}(hm:0<m)(h:Lies w D (.row k m es) u):∃ ad c news,u=.slice (some ad) m c/\news.length=m*k/\(∀ (j:Nat) v,news[j]?=some v->w.cell? (ad.add j)=some v)/\Fits w D es news:=by
 cases h with
 | none k p c=>omega
 | row k n' b off c es X hn0 _ hl hDb hc hX=>
  refine⟨⟨b,off,none⟩,c,(List.range es.length).map X,rfl,by simp[hl],fun j v hv=>?_,by simp,fun j e v he hv=>?_⟩
  ·have hadd:(⟨b,off,none⟩:Addr).add j=⟨b,off+j,none⟩:=by unfold Addr.add;split<;>simp_all
   rw[List.getElem?_map,Option.map_eq_some_iff]at hv
   obtain⟨i,hi,rfl⟩:=hv
   have hj:j<es.length:=by
    rcases Nat.lt_or_ge j es.length with h | h
    ·exact h
    ·rw[List.getElem?_eq_none (by simpa using h)]at hi;cases hi
   rw[List.getElem?_range hj]at hi
   obtain rfl:j=i:=by simpa using hi
   rw[hadd]
   exact hc j hj
  ·rw[List.getElem?_map,Option.map_eq_some_iff]at hv
   obtain⟨i,hi,rfl⟩:=hv
   have hj:j<es.length:=by
    rcases Nat.lt_or_ge j es.length with h | h
    ·exact h
    ·rw[List.getElem?_eq_none h]at he;cases he
   rw[List.getElem?_range hj]at hi
   obtain rfl:j=i:=by simpa using hi
   exact hX j e he
section
variable{ops:Array Oper}{Q:Exit->Act->World->Prop}{l:List Oper}
end
end
end
section
section
variable{P:Program}{cx:Cx}{T:TL}{B:BL}{R:RL}{o:Oper}{ops:Array Oper}{Q:Exit->Act->World->Prop}{l:List Oper}
theorem IU{K:Act->World->Prop}{r ty k n n':Nat}{ds ds':List Dat}{f:Bool}(hn:n=n')(hd:ds=ds')(h:E cx T B ((r,⟨ty,k,n',ds',f⟩)::R) K):E cx T B ((r,⟨ty,k,n,ds,f⟩)::R) K:=by
 subst hn
 subst hd
 exact h
end
section
variable{cx:Cx}{T:TL}{B:BL}{R R':RL}{K:Act->World->Prop}
theorem Dc.lkR(h:∀ b,lk b R=lk b R')(M:Nat->Nat)(V:Nat->Value)(w:World):Dc cx B R M V w=Dc cx B R' M V w:=by
 funext g
 unfold Dc
 simp only[h]
theorem Q7w(h:∀ b,lk b R=lk b R')(hE:E cx T B R' K):E cx T B R K:=fun M V a w hr=>by
 have hD:=Dc.lkR (cx:=cx) (B:=B) h M V w
 have hh:=hr.heap
 refine hE M V a w ⟨hr.size,hr.defers,⟨hh.below,hh.d0,hh.bl,hh.gl,fun b x hx=>?_,fun r x hx=>?_,fun r x g hx=>hh.ro r x g (by rw[h];exact hx),hh.pin,hh.bb,fun b r x y g hx hy=>hh.br b r x y g hx (by rw[h];exact hy),fun r q x y g hx hy=>hh.rr r q x y g (by rw[h];exact hx) (by rw[h];exact hy)⟩,fun t x hx=>?_⟩
 ·have:=hh.box b x hx
  rwa [hD]at this
 ·have:=hh.row r x (by rw[h];exact hx)
  rwa [hD]at this
 ·have:=hr.tmp t x hx
  rwa [hD]at this
end
end
section
variable{P:Program}{cx:Cx}{T:TL}{B:BL}{R:RL}{o:Oper}{ops:Array Oper}{Q:Exit->Act->World->Prop}{l:List Oper}
theorem Q5H{K:Act->World->Prop}{t s r:Nat}{v0:Value}(ht:lk t T=some (.is v0))(hp:lk s T=some (LQ r v0))(h:E cx ((t,.own r)::T) B R K):E cx T B R K:=fun M V a w hr=>h M V a w ⟨hr.size,hr.defers,hr.heap,fun q z hz=>by
 rcases AK hz with⟨rfl,rfl⟩ | ⟨_,hz⟩
 ·have h1:V r=v0:=hr.tmp s _ hp
  have h2:a.tmps.getD t undef=v0:=Lies.cell_eq (hr.tmp t _ ht)
  exact h2.trans h1.symm
 ·exact hr.tmp q z hz⟩
theorem WA{x y:Operand}{st:TypeId}{r ty k n j:Nat}{ds ds':List Dat}{d:Dat}(hg:o.guard=none)(hd:o.dst=none)(ho:o.op=.store st x y)(hx:Kn T x (.via r (AtV j)))(hr:lk r R=some ⟨ty,k,n,ds,false⟩)(hy:Kn T y (.part (.one d)))(h1:d.isOne=true)(hj:j<ds.length)(hs:sizeT P st=some 1)(hds:ds.set j d=ds')
  (hE:E cx T B ((r,⟨ty,k,n,ds',false⟩)::R) (wpList P ops Q l)) (hty:Nat.blt ty 1000000=true:=by rfl):E cx T B R (wpList P ops Q (o::l)):=fun M V a w hrel=>by
 subst hds
 obtain⟨g,n',c,hVr,hxv⟩:AtV j (V r) (a.eval x):=hx w (Dc cx B R M V w) M V a fun t z _ hz=>hrel.tmp t z hz
 have hyv:Lies w (Dc cx B R M V w) d (a.eval y):=hy w (Dc cx B R M V w) M V a fun t z _ hz=>hrel.tmp t z hz
 have hone:=hyv.one h1
 obtain⟨w',hst,hrel'⟩:=HR.own_store (P:=P) hrel hr hVr (es:=[d]) (us:=[a.eval y]) (j:=j) (by simp only[List.length_singleton];omega) (by simp) (Fits.cons hyv (Fits.nil _ _)) (fun u hu=>by rw[List.mem_singleton.1 hu];exact hone) hty
 rw[show ds.take j++[d]++ds.drop (j+[d].length)=ds.set j d by rw[List.set_eq_take_append_cons_drop,if_pos hj];simp]at hrel'
 refine wpList_plain hg fun K hK=>?_
 have:=hK _ _ (hE M V _ _ hrel')
 have hsz:=CM hs (w:=w)
 have hccl:(a.eval y).cells = #[a.eval y]:=by
  revert hone
  cases a.eval y<;>intro h<;>first | rfl | cases h
 unfold Oper.wp execOp
 simp only[ho,hxv,Instr.storeAt,Instr.sureAddr,Sem.run_bind,Sem.run_pure,Result.andThen_ok]
 simp[storeVar,hsz,hccl,hst,Oper.upon,hd,Act.put]
 exact this
abbrev Q8g(r:Nat)(v0 v:Value):IV:=.via r fun a u=>u=v/\a=v0
theorem Q1y(r:Nat)(v0:Value):Imp (atv r v0) (.own r):=fun _ _ _ _ _ h=>h.1
theorem Q6f{K:Act->World->Prop}{t s r:Nat}{v0:Value}(ht:lk t T=some (.is v0))(hp:lk s T=some (LQ r v0))(h:E cx ((t,atv r v0)::T) B R K):E cx T B R K:=fun M V a w hr=>h M V a w ⟨hr.size,hr.defers,hr.heap,fun q z hz=>by
 rcases AK hz with⟨rfl,rfl⟩ | ⟨_,hz⟩
 ·exact(hr.tmp t _ ht).atv_of (hr.tmp s _ hp)
 ·exact hr.tmp q z hz⟩
end
end Go.Proofs.YtgcphgdkddihcaaGreatDoor
