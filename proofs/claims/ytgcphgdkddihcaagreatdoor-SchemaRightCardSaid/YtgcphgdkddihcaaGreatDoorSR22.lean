/- Part 22. Conditions: as each theorem says. -/
import Derived.Test.YtgcphgdkddihcaaGreatDoorSR21
import Derived.Test.YtgcphgdkddihcaaGreatDoorProg
import Derived.Lib.UnsafeStr
import Derived.RegionTactic
import Derived.ChangeAlike
set_option maxRecDepth 100000
namespace Go.Proofs.YtgcphgdkddihcaaGreatDoor
open Go.RowKit
def Q5f(L:List Ty):Prop:=∀ t∈L,t.ix<cnt t.en L
theorem O5(en:Bool)(L:List Ty)(x:Ty):cnt en (L++[x])=cnt en L+if x.en=en then 1 else 0:=by
 unfold cnt
 rw[List.filter_append,List.length_append]
 congr 1
 by_cases h:x.en=en
 ·rw[if_pos h,List.filter_cons_of_pos (by simp[h])]
  rfl
 ·rw[if_neg h,List.filter_cons_of_neg (by simp[h])]
  rfl
theorem SM:∀ {xs L M:List Ty},GC L->Q5f L->CC L xs=.ok M->Q5f M
 | [],L,M,hL,hi,h=>by
  obtain rfl:=Except.ok.inj h
  exact hi
 | x::xs,L,M,hL,hi,h=>by
  unfold CC at h
  cases h1:JZ L x with
  | error e=>rw[h1]at h;cases h
  | ok N=>
   rw[h1]at h
   obtain⟨hN,rfl,_,_⟩:=Q4 hL h1
   refine SM hN (fun t ht=>?_) h
   rcases List.mem_append.1 ht with ht | ht
   ·have:=hi t ht
    rw[O5]
    omega
   ·obtain rfl:=List.mem_singleton.1 ht
    rw[O5,if_pos rfl]
    exact Nat.lt_succ_self _
theorem Q0r{L:List Ty}{name:List UInt8}:∀ (n:Nat) (scope:List UInt8),scope.length<=n -> ∀ {t:Ty},FM L name scope=some t->t∈L:=fun n=>by
 induction n with
 | zero=>
  intro scope hn t h
  rw[IX]at h
  split at h
  ·rename_i x hx
   obtain rfl:=Option.some.inj h
   exact(FX hx).1
  ·rw[if_pos (List.eq_nil_of_length_eq_zero (by omega))]at h
   exact(FX h).1
 | succ n ih=>
  intro scope hn t h
  rw[IX]at h
  split at h
  ·rename_i x hx
   obtain rfl:=Option.some.inj h
   exact(FX hx).1
  ·split at h
   ·exact(FX h).1
   ·rename_i hs
    exact ih (LT scope) (by have:=W5 hs;omega) h
theorem Q2v{L:List Ty}{scope name:List UInt8}{t:Ty}(h:BJ L scope name=some t):t∈L:=by
 rw[O4]at h
 split at h
 ·exact(FX h).1
 ·exact Q0r _ scope (Nat.le_refl _) h
structure FdOk (nm ne k:Nat) (f:Fd):Prop where
 num:1<=f.number/\f.number<=536870911
 kind:1<=f.kind/\f.kind<=17
 label:1<=f.label/\f.label<=4
 oneof:0<=f.oneof/\f.oneof<=(k:Int)
 msg:f.kind=17->0<=f.type/\f.type<(nm:Int)
 enm:f.kind=16->0<=f.type/\f.type<(ne:Int)
 typ:0<=f.type/\f.type<=1000000
 mkey:(0<f.mapKey↔f.label=4)/\0<=f.mapKey/\f.mapKey<=17
 pk:f.packed=true->f.label=3
 name:f.name.length<=1000000
theorem Q1B(l:List UInt8):EH l 16<=15:=by
 rw[JD l 15 (by omega)]
 split
 ·omega
 ·have:=Z7 l 15
  omega
theorem Q0T{n:Int}(h:GS n=true):1<=n/\n<=536870911:=by
 unfold GS at h
 simp at h
 omega
theorem Q4W{L:List Ty}(hi:Q5f L)(hl:L.length<=40){scope name:List UInt8}{k t:Int}(h:IA (BJ L scope) name=some (k,t)):(1<=k/\k<=17)/\(k=17->0<=t/\t<(cnt false L:Int))/\(k=16->0<=t/\t<(cnt true L:Int))/\0<=t/\t<=1000000:=by
 unfold IA at h
 split at h
 ·injection h with h
  injection h with h1 h2
  subst h1 h2
  have:=Q1B name
  exact⟨by omega,fun e=>by omega,fun e=>by omega,by omega,by omega⟩
 ·cases hx:BJ L scope name with
  | none=>rw[hx]at h;cases h
  | some x=>
   rw[hx,Option.map_some]at h
   injection h with h
   injection h with h1 h2
   have hm:=hi x (Q2v hx)
   have hc:cnt x.en L<=40:=by
    unfold cnt
    exact Nat.le_trans (List.length_filter_le _ _) hl
   subst h1 h2
   cases he:x.en
   ·rw[he]at hm hc
    simp
    omega
   ·rw[he]at hm hc
    simp
    omega
theorem US{look:List UInt8->Option Ty}{m:Msg}{i:Nat}{x:Fld}{f:Fd}(h:MI look m i x=.ok f):∃ k t,IA look x.type=some (k,t)/\GS x.number=true/\PC x=true/\XC x k=true/\f=MO x k t:=by
 unfold MI at h
 split at h
 ·cases h
 split at h
 ·cases h
 rename_i h2
 split at h
 ·cases h
 split at h
 ·cases h
 split at h
 ·cases h
 rename_i k t h5
 split at h
 ·cases h
 rename_i h6
 split at h
 ·cases h
 split at h
 ·cases h
 rename_i h8
 injection h with h
 exact⟨k,t,h5,by simpa using h2,by simpa using h6,by simpa using h8,h.symm⟩
theorem Q5q{nm ne k:Nat}{x:Fld}{kd t:Int}(hg:FGd k x)(hb:GS x.number=true)(hm:PC x=true)(h1:1<=kd/\kd<=17)(h2:kd=17->0<=t/\t<(nm:Int))(h3:kd=16->0<=t/\t<(ne:Int))(h4:0<=t/\t<=1000000):FdOk nm ne k (MO x kd t):=by
 obtain⟨g1,g2,g3,g4,g5,g6⟩:=hg
 have hk:=Q1B x.mapKey
 refine⟨Q0T hb,h1,g4,g6,h2,h3,h4,?_,fun hp=>?_,g1⟩
 ·show(0<(if ZM x then(EH x.mapKey 16:Int)else 0)↔x.label=4)/\0<=(if ZM x then(EH x.mapKey 16:Int)else 0)/\(if ZM x then(EH x.mapKey 16:Int)else 0)<=17
  unfold ZM
  by_cases e:x.label=4
  ·rw[if_pos (by simpa using e)]
   unfold PC ZM at hm
   simp[e]at hm
   exact⟨⟨fun _=>e,fun _=>by omega⟩,by omega,by omega⟩
  ·rw[if_neg (by simpa using e)]
   exact⟨⟨fun h=>by omega,fun h=>absurd h e⟩,by omega,by omega⟩
 ·have hp:(Q4n x kd && !decide (x.packed=2))=true:=hp
  unfold Q4n at hp
  simp at hp
  exact hp.1.1
structure MgOk (nm ne:Nat) (q:Mg):Prop where
 fds:∀ f∈q.fields,FdOk nm ne q.oneofs.length f
 len:q.fields.length<=40
 nam:(q.fields.map (·.name)).Nodup
 srt:(q.fields.map (·.number)).Pairwise (· < ·)
 one:q.oneofs.length<=100000000000
structure EnOk (e:En):Prop where
 len:e.names.length=e.numbers.length
 le:e.numbers.length<=40
 zero:e.numbers[0]?=some 0
def WOk2(M:List Mg)(W:List Wish):Prop:=∀ w∈W,∃ q f,M[w.msg]?=some q/\f∈q.fields/\f.number=w.fld.number/\f.kind=17/\f.label=3
structure CsOk (nm ne:Nat) (s:Cst):Prop where
 ms:∀ q∈s.msgs,MgOk nm ne q
 es:∀ e∈s.enums,EnOk e
 ws:WOk2 s.msgs s.later
 wl:s.later.length<=40*s.msgs.length
 ky:∀ q∈s.msgs,∀ f∈q.fields,f.key=0
theorem PH:∀ {vs a:List Val},DX a vs=none->a.length<=40->a.length+vs.length<=40
 | [],a,_,ha=>by simpa using ha
 | v::vs,a,h,ha=>by
  unfold DX at h
  split at h
  ·cases h
  split at h
  ·cases h
  have:=PH h (by rw[List.length_append,List.length_singleton];omega)
  rw[List.length_append,List.length_singleton]at this
  rw[List.length_cons]
  omega
theorem Q33{full:List UInt8}{e:Enm}{x:En}(h:enumM full e=.ok x):EnOk x:=by
 unfold enumM at h
 split at h
 ·cases h
 rename_i v vs hv
 split at h
 ·cases h
 rename_i h0
 split at h
 ·cases h
 rename_i hb
 injection h with h
 subst h
 have hl:=PH hb (by decide)
 refine⟨?_,?_,?_⟩
 ·show((v::vs).map (·.name)).length=((v::vs).map (·.number)).length
  rw[List.length_map,List.length_map]
 ·show((v::vs).map (·.number)).length<=40
  rw[List.length_map]
  simpa using hl
 ·show some v.number=some 0
  rw[Classical.not_not.1 h0]
theorem Q7d{l:List Fd}(h1:l.Pairwise (fun a b=>a.number<=b.number))(h2:(l.map (·.number)).Nodup):l.Pairwise (fun a b=>a.number<b.number):=by
 induction l with
 | nil=>exact .nil
 | cons a l ih=>
  obtain⟨p1,p2⟩:=List.pairwise_cons.1 h1
  rw[List.map_cons,List.nodup_cons]at h2
  refine List.pairwise_cons.2 ⟨fun b hb=>?_,ih p2 h2.2⟩
  have:=p1 b hb
  have hne:a.number≠b.number:=fun e=>h2.1 (e▸List.mem_map.2 ⟨b,hb,rfl⟩)
  omega
theorem Q0X{look:List UInt8->Option Ty}{m:Msg}{fs:List Fd}(h:EE look m 0 m.fields=.ok fs):(fs.map (·.number)).Nodup/\(fs.map (·.name)).Nodup:=by
 obtain⟨h1,h2⟩:=K3 h
 suffices key:∀ (i j:Nat) (hi:i<fs.length) (hj:j<fs.length),i<j->fs[i].number≠fs[j].number/\fs[i].name≠fs[j].name by
  rw[List.Nodup,List.pairwise_map,List.Nodup,List.pairwise_map]
  exact⟨List.pairwise_iff_getElem.2 fun i j hi hj hij=>(key i j hi hj hij).1,List.pairwise_iff_getElem.2 fun i j hi hj hij=>(key i j hi hj hij).2⟩
 intro i j hi hj hij
 have hjm:j<m.fields.length:=by rw[<- h1];exact hj
 obtain⟨y,hy⟩:∃ y,m.fields[j]?=some y:=⟨_,List.getElem?_eq_getElem hjm⟩
 obtain⟨x,hx⟩:∃ x,m.fields[i]?=some x:=⟨_,List.getElem?_eq_getElem (by omega)⟩
 have e1:=JE (h2 i _ x (List.getElem?_eq_getElem hi) hx)
 have e2:=JE (h2 j _ y (List.getElem?_eq_getElem hj) hy)
 have hm:x∈m.fields.take (0+j):=List.mem_of_getElem? (i:=i) (by rw[Nat.zero_add,List.getElem?_take,if_pos hij];exact hx)
 have e3:=UX e2.2.1 hm
 exact⟨fun e=>e3.2 (by rw[<- e1.2.2.1,<- e2.2.2.1,e]),fun e=>e3.1 (by rw[<- e1.2.2.2,<- e2.2.2.2,e])⟩
theorem Q6p{nm ne:Nat}{s s':Cst}{full:List UInt8}{e:Enm}(h:CsOk nm ne s)(hr:addE s (enumM full e)=.ok s'):CsOk nm ne s':=by
 cases hx:enumM full e with
 | error z=>rw[hx]at hr;cases hr
 | ok y=>
  rw[hx]at hr
  obtain rfl:=Except.ok.inj hr
  refine⟨h.ms,fun x hm=>?_,h.ws,h.wl,h.ky⟩
  rcases List.mem_append.1 hm with hm | hm
  ·exact h.es x hm
  ·obtain rfl:=List.mem_singleton.1 hm
   exact Q33 hx
theorem Q5F{L:List Ty}(hi:Q5f L)(hl:L.length<=40){s s':Cst}{full:List UInt8}{m:Msg}(hg:m.gd)(hf:m.fine)(h:CsOk (cnt false L) (cnt true L) s)(hr:addM s m (msgM (BJ L) full m)=.ok s'):CsOk (cnt false L) (cnt true L) s':=by
 unfold msgM at hr
 cases hx:EE (BJ L full) m 0 m.fields with
 | error z=>rw[hx]at hr;cases hr
 | ok fs=>
  rw[hx]at hr
  dsimp only at hr
  split at hr
  ·obtain rfl:=Except.ok.inj hr
   obtain⟨u1,u2,u3,u4⟩:=IC hx
   obtain⟨v1,v2⟩:=K3 hx
   have hn:=Q0X hx
   have hp:=H8 fs
   obtain⟨g1,g2,g3,g4⟩:=(Msg.gd_iff m).1 hg
   have hfl:∀ f∈fs,∃ x∈m.fields,∃ k t,f=MO x k t/\FdOk (cnt false L) (cnt true L) m.oneofs.length f/\XC x k=true:=fun f hfm=>by
    obtain⟨j,hj⟩:=List.mem_iff_getElem?.1 hfm
    obtain⟨x,hxj⟩:∃ x,m.fields[j]?=some x:=⟨_,List.getElem?_eq_getElem (by rw[<- u1];exact(List.getElem?_eq_some_iff.1 hj).1)⟩
    obtain⟨k,t,t1,t2,t3,t4,t5⟩:=US (v2 j f x hj hxj)
    obtain⟨y1,y2,y3,y4⟩:=Q4W hi hl t1
    have hxm:=List.mem_of_getElem? hxj
    exact⟨x,hxm,k,t,t5,t5▸Q5q (g1 x hxm) t2 t3 y1 y2 y3 y4,t4⟩
   refine⟨fun q hq=>?_,h.es,fun w hw=>?_,?_,fun q hq=>?_⟩
   ·rcases List.mem_append.1 hq with hq | hq
    ·exact h.ms q hq
    ·obtain rfl:=List.mem_singleton.1 hq
     refine⟨fun f hfm=>?_,by show(CU fs).length<=40;rw[OH];exact u2,(hp.map _).nodup_iff.2 hn.2,by rw[List.pairwise_map];exact Q7d (NT fs) ((hp.map _).nodup_iff.2 hn.1),((Msg.fine_iff m).1 hf).2.1⟩
     obtain⟨x,_,k,t,_,hok,_⟩:=hfl f (hp.mem_iff.1 hfm)
     exact hok
   ·rcases List.mem_append.1 hw with hw | hw
    ·obtain⟨q,f,b1,b2⟩:=h.ws w hw
     have hlt:w.msg<s.msgs.length:=(List.getElem?_eq_some_iff.1 b1).1
     exact⟨q,f,by rw[List.getElem?_append_left hlt];exact b1,b2⟩
    ·unfold wishesOf at hw
     obtain⟨x,hxm,rfl⟩:=List.mem_map.1 hw
     have hkey:=(List.mem_filter.1 hxm).2
     have hxm:=(List.mem_filter.1 hxm).1
     obtain⟨j,hj⟩:=List.mem_iff_getElem?.1 hxm
     obtain⟨f,hfj⟩:∃ f,fs[j]?=some f:=⟨_,List.getElem?_eq_getElem (by rw[u1];exact(List.getElem?_eq_some_iff.1 hj).1)⟩
     obtain⟨k,t,t1,t2,t3,t4,t5⟩:=US (v2 j f x hfj hj)
     refine⟨_,f,by rw[List.getElem?_append_right (Nat.le_refl _),Nat.sub_self];rfl,hp.mem_iff.2 (List.mem_of_getElem? hfj),by rw[t5];rfl,?_⟩
     have hne:¬ x.key=[]:=by simpa using hkey
     unfold XC at t4
     simp[hne]at t4
     rw[t5]
     exact⟨t4.2,t4.1⟩
   ·show(s.later++wishesOf s.msgs.length m.fields).length<=40*(s.msgs++[_]).length
    have h1:=MG s.msgs.length m.fields
    have h2:=h.wl
    rw[List.length_append,List.length_append,List.length_singleton]
    omega
   ·rcases List.mem_append.1 hq with hq | hq
    ·exact h.ky q hq
    ·obtain rfl:=List.mem_singleton.1 hq
     intro f hfm
     obtain⟨x,_,k,t,rfl,_⟩:=hfl f (hp.mem_iff.1 hfm)
     rfl
  ·cases hr
theorem S6(en:Bool)(xs:List Ty):(CA en xs).length=cnt en xs:=Z9 en xs
theorem cntT_append(en:Bool)(a b:List Ty):cnt en (a++b)=cnt en a+cnt en b:=by
 unfold cnt
 rw[List.filter_append,List.length_append]
theorem cntT_cons(en:Bool)(x:Ty)(b:List Ty):cnt en (x::b)=(if x.en=en then 1 else 0)+cnt en b:=by
 rw[show x::b=[x]++b from rfl,cntT_append]
 congr 1
 exact(O5 en [] x).trans (Nat.zero_add _)
def Grown(xs:List Ty)(s s':Cst):Prop:=s'.msgs.length=s.msgs.length+cnt false xs/\s'.enums.length=s.enums.length+cnt true xs
theorem enmsM_run{I:Cst->Prop}(hE:∀ full e s s',I s->addE s (enumM full e)=.ok s'->I s'){ahead:List UInt8}:∀ {es:List Enm} {s s':Cst},enmsM ahead es s=.ok s'->I s->I s'/\Grown (es.map (tyE ahead)) s s'
 | [],s,s',h,hI=>by
  unfold enmsM at h
  obtain rfl:=Except.ok.inj h
  exact⟨hI,rfl,rfl⟩
 | e::es,s,s',h,hI=>by
  unfold enmsM at h
  cases hx:enumM (ahead++e.name) e with
  | error z=>rw[hx]at h;cases h
  | ok y=>
   rw[hx]at h
   have h1:=hE (ahead++e.name) e s _ hI (by rw[hx];rfl)
   obtain⟨h2,h3,h4⟩:=enmsM_run hE h h1
   refine⟨h2,?_,?_⟩
   ·rw[h3,List.map_cons,cntT_cons,if_neg (by show ¬ true=false;decide),Nat.zero_add]
   ·rw[h4,List.map_cons,cntT_cons,if_pos (show(tyE ahead e).en=true from rfl),List.length_append,List.length_singleton]
    omega
mutual
theorem oneM_run{look:List UInt8->List UInt8->Option Ty}{I:Cst->Prop}(hE:∀ full e s s',I s->addE s (enumM full e)=.ok s'->I s')(hM:∀ full m s s',m.gd->m.fine->I s->addM s m (msgM look full m)=.ok s'->I s'):∀ (ahead:List UInt8) (m:Msg) (s s':Cst),m.gd->m.fine->oneM look ahead m s=.ok s'->I s->I s'/\Grown (tyM ahead m) s s'
 | ahead,.mk n f o m e r q l c,s,s',hg,hf,h,hI=>by
  have hg':=(Msg.gd_iff _).1 hg
  have hf':=(Msg.fine_iff _).1 hf
  unfold oneM at h
  cases hx:msgM look (ahead++n) (.mk n f o m e r q l c)with
  | error z=>rw[hx]at h;cases h
  | ok g=>
   rw[hx]at h
   dsimp only at h
   have h1:=hM (ahead++n) (.mk n f o m e r q l c) s _ hg hf hI (by rw[hx];rfl)
   cases hy:enmsM (ahead++n++[46]) e { s with msgs:=s.msgs++[g],later:=s.later++wishesOf s.msgs.length f }with
   | error z=>rw[hy]at h;cases h
   | ok s1=>
    rw[hy]at h
    obtain⟨h2,h3,h4⟩:=enmsM_run hE hy h1
    obtain⟨h5,h6,h7⟩:=manyM_run hE hM (ahead++n++[46]) m s1 s' hg'.2.2.2 hf'.2.2.2.2.2.2.2 h h2
    refine⟨h5,?_,?_⟩
    ·rw[h6,h3,tyM,cntT_cons,if_pos rfl,cntT_append]
     show(s.msgs++[g]).length+_+_=_
     rw[List.length_append,List.length_singleton]
     show _=s.msgs.length+(1+(cnt false (e.map (tyE (ahead++n++[46])))+_))
     omega
    ·rw[h7,h4,tyM,cntT_cons,if_neg (by show ¬ false=true;decide),cntT_append]
     show s.enums.length+_+_=s.enums.length+(0+(cnt true (e.map (tyE (ahead++n++[46])))+_))
     omega
theorem manyM_run{look:List UInt8->List UInt8->Option Ty}{I:Cst->Prop}(hE:∀ full e s s',I s->addE s (enumM full e)=.ok s'->I s')(hM:∀ full m s s',m.gd->m.fine->I s->addM s m (msgM look full m)=.ok s'->I s'):∀ (ahead:List UInt8) (ms:List Msg) (s s':Cst),(∀ k∈ms,k.gd)->(∀ k∈ms,k.fine)->manyM look ahead ms s=.ok s'->I s->I s'/\Grown (tyMs ahead ms) s s'
 | ahead,[],s,s',hg,hf,h,hI=>by
  unfold manyM at h
  obtain rfl:=Except.ok.inj h
  exact⟨hI,rfl,rfl⟩
 | ahead,k::ms,s,s',hg,hf,h,hI=>by
  unfold manyM at h
  cases hx:oneM look ahead k s with
  | error z=>rw[hx]at h;cases h
  | ok s1=>
   rw[hx]at h
   obtain⟨h2,h3,h4⟩:=oneM_run hE hM ahead k s s1 (hg k List.mem_cons_self) (hf k List.mem_cons_self) hx hI
   obtain⟨h5,h6,h7⟩:=manyM_run hE hM ahead ms s1 s' (fun x hx=>hg x (List.mem_cons_of_mem _ hx)) (fun x hx=>hf x (List.mem_cons_of_mem _ hx)) h h2
   refine⟨h5,?_,?_⟩
   ·rw[h6,h3,tyMs,cntT_append]
    omega
   ·rw[h7,h4,tyMs,cntT_append]
    omega
end
theorem UR{f:Fil}{L:List Ty}(hT:EX f=.ok L)(en:Bool):cnt en L=cnt en (MF f):=by
 have h:=II en hT
 have h2:=congrArg List.length h
 rw[List.length_append,S6,S6,S6]at h2
 rw[h2]
 show 0+_=_
 omega
theorem Q44{f:Fil}{L:List Ty}(hT:EX f=.ok L):Q5f L/\L.length<=40:=by
 have tb0:GC []:=⟨List.nodup_nil,by simp⟩
 exact⟨SM tb0 (fun t ht=>(by cases ht)) hT,(F1 tb0 hT).2⟩
theorem Q5K{f:Fil}(hf:f.fine)(hg:f.gd){L:List Ty}(hT:EX f=.ok L){s:Cst}(h:J5 (BJ L) (DG f.package) f.enums f.msgs ⟨[],[],[]⟩=.ok s):CsOk s.msgs.length s.enums.length s/\s.msgs.length<=40/\s.enums.length<=40:=by
 obtain⟨hi,hl⟩:=Q44 hT
 have h0:CsOk (cnt false L) (cnt true L) ⟨[],[],[]⟩:=⟨fun q hq=>(by cases hq),fun q hq=>(by cases hq),fun q hq=>(by cases hq),Nat.zero_le _,fun q hq=>(by cases hq)⟩
 have hE:∀ full e s s',CsOk (cnt false L) (cnt true L) s->addE s (enumM full e)=.ok s'->CsOk (cnt false L) (cnt true L) s':=fun _ _ _ _ h hr=>Q6p h hr
 have hM:∀ full m s s',m.gd->m.fine->CsOk (cnt false L) (cnt true L) s->addM s m (msgM (BJ L) full m)=.ok s'->CsOk (cnt false L) (cnt true L) s':=fun _ _ _ _ hg hf h hr=>Q5F hi hl hg hf h hr
 unfold J5 at h
 cases hx:enmsM (DG f.package) f.enums ⟨[],[],[]⟩with
 | error z=>rw[hx]at h;cases h
 | ok s1=>
  rw[hx]at h
  obtain⟨h2,h3,h4⟩:=enmsM_run hE hx h0
  obtain⟨h5,h6,h7⟩:=manyM_run hE hM _ f.msgs s1 s hg.ms hf.2.2.2 h h2
  have c1:=UR hT false
  have c2:=UR hT true
  unfold MF E1 at c1 c2
  rw[cntT_append]at c1 c2
  have e1:s.msgs.length=cnt false L:=by
   rw[h6,h3,c1]
   show 0+_+_=_
   omega
  have e2:s.enums.length=cnt true L:=by
   rw[h7,h4,c2]
   show 0+_+_=_
   omega
  have b1:cnt false L<=40:=by unfold cnt;exact Nat.le_trans (List.length_filter_le _ _) hl
  have b2:cnt true L<=40:=by unfold cnt;exact Nat.le_trans (List.length_filter_le _ _) hl
  exact⟨by rw[e1,e2];exact h5,by omega,by omega⟩
def nk(f:Fd):Fd:={ f with key:=0 }
def nkM(q:Mg):Mg:={ q with fields:=q.fields.map nk }
theorem L9(n k:Int):∀ l:List Fd,(CS n k l).map nk=l.map nk
 | []=>rfl
 | f::l=>by
  unfold CS
  split
  ·rfl
  ·rw[List.map_cons,List.map_cons,L9 n k l]
theorem RO{n k:Int}:∀ {l:List Fd} {f:Fd},f∈CS n k l->f∈l \/ ∃ g∈l,g.number=n/\f={ g with key:=k }
 | [],f,h=>by cases h
 | g::l,f,h=>by
  unfold CS at h
  split at h
  ·rename_i e
   rcases List.mem_cons.1 h with rfl | h
   ·exact .inr ⟨g,List.mem_cons_self,e,rfl⟩
   ·exact .inl (List.mem_cons_of_mem _ h)
  ·rcases List.mem_cons.1 h with rfl | h
   ·exact .inl List.mem_cons_self
   ·rcases RO h with h | ⟨x,h1,h2⟩
    ·exact .inl (List.mem_cons_of_mem _ h)
    ·exact .inr ⟨x,List.mem_cons_of_mem _ h1,h2⟩
theorem UN{a b:List Fd}(h:a.map nk=b.map nk){f:Fd}(hf:f∈a):∃ g∈b,nk g=nk f:=by
 have:nk f∈b.map nk:=h▸List.mem_map.2 ⟨f,hf,rfl⟩
 obtain⟨g,h1,h2⟩:=List.mem_map.1 this
 exact⟨g,h1,h2⟩
theorem FdOk.nk{nm ne k:Nat}{f g:Fd}(h:FdOk nm ne k g)(e:nk g=nk f):FdOk nm ne k f:=by
 obtain⟨a1,a2,a3,a4,a5,a6,a7,a8,a9⟩:=f
 obtain⟨b1,b2,b3,b4,b5,b6,b7,b8,b9⟩:=g
 simp only[Go.Proofs.YtgcphgdkddihcaaGreatDoor.nk,Fd.mk.injEq]at e
 obtain⟨rfl,rfl,rfl,rfl,rfl,rfl,_,rfl,rfl⟩:=e
 exact⟨h.num,h.kind,h.label,h.oneof,h.msg,h.enm,h.typ,h.mkey,h.pk,h.name⟩
theorem Q4R{β:Type}(p:Fd->β)(hp:∀ f,p (nk f)=p f){a b:List Fd}(h:a.map nk=b.map nk):a.map p=b.map p:=by
 have h2:=congrArg (List.map p) h
 rw[List.map_map,List.map_map]at h2
 rw[show p=p ∘ nk from funext fun f=>(hp f).symm]
 exact h2
theorem MgOk.nk{nm ne:Nat}{q r:Mg}(h:MgOk nm ne q)(e:r.fields.map nk=q.fields.map nk)(e2:r.oneofs=q.oneofs):MgOk nm ne r:=by
 refine⟨fun f hf=>?_,?_,?_,?_,by rw[e2];exact h.one⟩
 ·obtain⟨g,h1,h2⟩:=UN e hf
  rw[e2]
  exact(h.fds g h1).nk h2
 ·have:=congrArg List.length e
  rw[List.length_map,List.length_map]at this
  rw[this]
  exact h.len
 ·rw[Q4R (·.name) (fun _=>rfl) e]
  exact h.nam
 ·rw[Q4R (·.number) (fun _=>rfl) e]
  exact h.srt
theorem Q26{l:List Int}(h:l.Pairwise (· < ·)):l.Nodup:=h.imp fun h=>by omega
theorem MgOk.same{nm ne:Nat}{q:Mg}(h:MgOk nm ne q){a b:Fd}(ha:a∈q.fields)(hb:b∈q.fields)(e:a.number=b.number):a=b:=by
 have hn:=Q26 h.srt
 rw[List.Nodup,List.pairwise_map]at hn
 obtain⟨i,hi,rfl⟩:=List.mem_iff_getElem.1 ha
 obtain⟨j,hj,rfl⟩:=List.mem_iff_getElem.1 hb
 have h1:=List.pairwise_iff_getElem.1 hn
 rcases Nat.lt_trichotomy i j with h | h | h
 ·exact absurd e (h1 i j hi hj h)
 ·subst h;rfl
 ·exact absurd e.symm (h1 j i hj hi h)
theorem MgOk.sameN{nm ne:Nat}{q:Mg}(h:MgOk nm ne q){a b:Fd}(ha:a∈q.fields)(hb:b∈q.fields)(e:a.name=b.name):a=b:=by
 have hn:=h.nam
 rw[List.Nodup,List.pairwise_map]at hn
 obtain⟨i,hi,rfl⟩:=List.mem_iff_getElem.1 ha
 obtain⟨j,hj,rfl⟩:=List.mem_iff_getElem.1 hb
 have h1:=List.pairwise_iff_getElem.1 hn
 rcases Nat.lt_trichotomy i j with h | h | h
 ·exact absurd e (h1 i j hi hj h)
 ·subst h;rfl
 ·exact absurd e.symm (h1 j i hj hi h)
theorem MV{α:Type}{p:α->Bool}{l:List α}{x:α}(h:l.find? p=some x):x∈l/\p x=true:=⟨List.mem_of_find?_eq_some h,List.find?_some h⟩
theorem Q3k{nm ne:Nat}{q:Mg}(h:MgOk nm ne q){f:Fd}(hf:f∈q.fields):(q.fields.find? fun g=>decide (g.number=f.number))=some f:=by
 cases hx:q.fields.find? fun g=>decide (g.number=f.number)with
 | none=>
  have:=List.find?_eq_none.1 hx f hf
  simp at this
 | some g=>
  obtain⟨h1,h2⟩:=MV hx
  rw[h.same h1 hf (by simpa using h2)]
theorem Q0F{nm ne:Nat}{q:Mg}(h:MgOk nm ne q){f:Fd}(hf:f∈q.fields):(q.fields.find? fun g=>decide (g.name=f.name))=some f:=by
 cases hx:q.fields.find? fun g=>decide (g.name=f.name)with
 | none=>
  have:=List.find?_eq_none.1 hx f hf
  simp at this
 | some g=>
  obtain⟨h1,h2⟩:=MV hx
  rw[h.sameN h1 hf (by simpa using h2)]
theorem UK(A:List Mg)(t n:Int):I6 (A.map nkM) t n=(I6 A t n).map nk:=by
 unfold I6
 split
 ·rw[List.getElem?_map]
  cases A[t.toNat]? with
  | none=>rfl
  | some q=>
   show(q.fields.map nk).find? _=(q.fields.find? _).map nk
   rw[List.find?_map]
   rfl
 ·rfl
def KyOk(A:List Mg):Prop:=∀ q∈A,∀ f∈q.fields,0<f.key -> ∃ g,I6 A f.type f.key=some g/\f.label=3/\g.label=1/\g.oneof=0
structure KsOk (nm ne:Nat) (A:List Mg) (W:List Wish):Prop where
 ms:∀ q∈A,MgOk nm ne q
 ky:KyOk A
 ws:WOk2 A W
 len:A.length=nm
theorem Q7n{A:List Mg}{i:Nat}{q r:Mg}(h:A[i]?=some q)(e:nkM r=nkM q):(A.set i r).map nkM=A.map nkM:=by
 rw[List.map_set,e]
 refine RM ?_
 rw[List.getElem?_map,h]
 rfl
theorem Q2f{A A':List Mg}{w:Wish}(h:JM A w=some A'):∃ q f k,A[w.msg]?=some q/\f∈q.fields/\f.number=w.fld.number/\EV A f.type w.fld.key=some k/\E7 k=true/\A'=A.set w.msg { q with fields:=CS w.fld.number k.number q.fields }:=by
 unfold JM at h
 cases hq:A[w.msg]? with
 | none=>rw[hq]at h;cases h
 | some q=>
  rw[hq]at h
  dsimp only at h
  split at h
  ·cases h
  rename_i f hf
  split at h
  ·cases h
  rename_i k hk
  split at h
  ·rename_i ht
   obtain rfl:=Option.some.inj h
   obtain⟨h1,h2⟩:=MV hf
   exact⟨q,f,k,rfl,h1,by simpa using h2,hk,ht,rfl⟩
  ·cases h
theorem Q2P{A:List Mg}{t:Int}{name:List UInt8}{k:Fd}(h:EV A t name=some k):0<=t /\ ∃ q,A[t.toNat]?=some q/\k∈q.fields/\k.name=name:=by
 unfold EV at h
 split at h
 ·rename_i h0
  refine⟨h0,?_⟩
  cases hq:A[t.toNat]? with
  | none=>rw[hq]at h;cases h
  | some q=>
   rw[hq]at h
   obtain⟨h1,h2⟩:=MV (show q.fields.find? _=some k from h)
   exact⟨q,rfl,h1,by simpa using h2⟩
 ·cases h
theorem Q28{k:Fd}(h:E7 k=true):k.label=1/\k.oneof=0:=by
 unfold E7 at h
 simp at h
 exact h.2
theorem Q6y{nm ne:Nat}{A A':List Mg}{W:List Wish}{w:Wish}(hw:w∈W)(h:KsOk nm ne A W)(hk:JM A w=some A'):KsOk nm ne A' W:=by
 obtain⟨q,f,k,hq,hf,hn,hnm,ht,rfl⟩:=Q2f hk
 obtain⟨q2,f2,hq2,hf2,hn2,hk2,hl2⟩:=h.ws w hw
 obtain rfl:q=q2:=by rw[hq]at hq2;exact Option.some.inj hq2
 have hqm:=List.mem_of_getElem? hq
 obtain rfl:f=f2:=(h.ms q hqm).same hf hf2 (hn.trans hn2.symm)
 obtain⟨h0,qt,hqt,hkm,hkn⟩:=Q2P hnm
 have hqtm:=List.mem_of_getElem? hqt
 have hnk:nkM ({ q with fields:=CS w.fld.number k.number q.fields }:Mg)=nkM q:=by
  unfold nkM
  rw[L9]
 have hAA:=Q7n hq hnk
 have hfk:I6 A f.type k.number=some k:=by
  unfold I6
  rw[if_pos h0,hqt]
  exact Q3k (h.ms qt hqtm) hkm
 have up:∀ t n g,I6 A t n=some g -> ∃ g',I6 (A.set w.msg { q with fields:=CS w.fld.number k.number q.fields }) t n=some g'/\nk g'=nk g:=fun t n g hg=>by
  have h1:=UK (A.set w.msg { q with fields:=CS w.fld.number k.number q.fields }) t n
  rw[hAA,UK,hg]at h1
  cases hx:I6 (A.set w.msg { q with fields:=CS w.fld.number k.number q.fields }) t n with
  | none=>rw[hx]at h1;cases h1
  | some g'=>rw[hx]at h1;exact⟨g',rfl,(Option.some.inj h1).symm⟩
 have nkl:∀ {a b:Fd},nk a=nk b->a.label=b.label/\a.oneof=b.oneof/\a.number=b.number/\a.kind=b.kind:=fun{a b} e=>⟨congrArg (·.label) e,congrArg (·.oneof) e,congrArg (·.number) e,congrArg (·.kind) e⟩
 refine⟨fun x hx=>?_,fun x hx g hg hpos=>?_,fun v hv=>?_,by rw[List.length_set];exact h.len⟩
 ·rcases List.mem_or_eq_of_mem_set hx with hx | rfl
  ·exact h.ms x hx
  ·exact(h.ms q hqm).nk (by rw[L9]) rfl
 ·have old:∀ y∈A,g∈y.fields -> ∃ g',I6 (A.set w.msg { q with fields:=CS w.fld.number k.number q.fields }) g.type g.key=some g'/\g.label=3/\g'.label=1/\g'.oneof=0:=fun y hy hgy=>by
   obtain⟨g0,a1,a2,a3,a4⟩:=h.ky y hy g hgy hpos
   obtain⟨g',b1,b2⟩:=up _ _ _ a1
   obtain⟨c1,c2,_⟩:=nkl b2
   exact⟨g',b1,a2,c1.trans a3,c2.trans a4⟩
  rcases List.mem_or_eq_of_mem_set hx with hx | rfl
  ·exact old x hx hg
  ·rcases RO hg with hg | ⟨g0,hg0,hgn,rfl⟩
   ·exact old q hqm hg
   ·obtain rfl:g0=f:=(h.ms q hqm).same hg0 hf (hgn.trans hn.symm)
    obtain⟨g',b1,b2⟩:=up _ _ _ hfk
    obtain⟨c1,c2,_⟩:=nkl b2
    obtain⟨d1,d2⟩:=Q28 ht
    exact⟨g',b1,hl2,c1.trans d1,c2.trans d2⟩
 ·obtain⟨y,g,b1,b2,b3,b4,b5⟩:=h.ws v hv
  by_cases e:w.msg=v.msg
  ·rw[<- e,hq]at b1
   obtain rfl:=Option.some.inj b1
   obtain⟨g',c1,c2⟩:=UN (L9 w.fld.number k.number q.fields).symm b2
   obtain⟨d1,d2,d3,d4⟩:=nkl c2
   refine⟨_,g',by rw[<- e,List.getElem?_set,if_pos rfl,if_pos (List.getElem?_eq_some_iff.1 hq).1],c1,d3.trans b3,d4.trans b4,d1.trans b5⟩
  ·exact⟨y,g,by rw[List.getElem?_set,if_neg e];exact b1,b2,b3,b4,b5⟩
theorem Z8{nm ne:Nat}{W:List Wish}:∀ {ws:List Wish} {A A':List Mg},(∀ w∈ws,w∈W)->KsOk nm ne A W->JY A ws=.ok A'->KsOk nm ne A' W
 | [],A,A',_,h,hk=>by
  obtain rfl:=Except.ok.inj hk
  exact h
 | w::ws,A,A',hs,h,hk=>by
  rw[RS]at hk
  cases hx:JM A w with
  | none=>rw[hx]at hk;cases hk
  | some B=>
   rw[hx]at hk
   exact Z8 (fun v hv=>hs v (List.mem_cons_of_mem _ hv)) (Q6y (hs w List.mem_cons_self) h hx) hk
structure SchOk (A:List Mg) (E:List En):Prop where
 ms:∀ q∈A,MgOk A.length E.length q
 es:∀ e∈E,EnOk e
 ky:KyOk A
 al:A.length<=40
 el:E.length<=40
theorem CsOk.ks{nm ne:Nat}{s:Cst}(h:CsOk nm ne s)(hl:s.msgs.length=nm):KsOk nm ne s.msgs s.later:=
 ⟨h.ms,fun q hq f hf hp=>by rw[h.ky q hq f hf]at hp;omega,h.ws,hl⟩
theorem Q3x{f:Fil}(hf:f.fine)(hg:f.gd){A:List Mg}{E:List En}(h:PB f=.ok (A,E)):SchOk A E:=by
 rw[QY]at h
 split at h
 ·cases h
 rename_i L hT
 unfold VX at h
 split at h
 ·cases h
 rename_i s hs
 obtain⟨h1,h2,h3⟩:=Q5K hf hg hT hs
 cases hk:JY s.msgs s.later with
 | error x=>rw[hk]at h;cases h
 | ok B=>
  rw[hk]at h
  have h:=Except.ok.inj h
  injection h with ha he
  subst ha he
  have h4:=Z8 (fun w hw=>hw) (h1.ks rfl) hk
  refine⟨?_,h1.es,h4.ky,by rw[h4.len];exact h2,h3⟩
  rw[h4.len]
  exact h4.ms
def mgR(g:MgV):List Dat:=[.cell (.string (str g.1.name)),.orow 64 9 g.1.fields.length g.2 (g.1.fields.flatMap fdD),.row 1 g.1.oneofs.length (g.1.oneofs.flatMap textDats)]
def wrD(w:Wish):List Dat:=[.cell (.int .i64 (w.msg:Int)),.cell (.int .i64 w.fld.number),.cell (.string (str w.fld.key)),.cell (.int .i64 w.fld.line),.cell (.int .i64 w.fld.col)]
abbrev paR(A:List MgV)(E:List En)(W:List Wish):RL:=[(1001,⟨2000000+56,3,A.length,A.flatMap mgR,false⟩),(1002,⟨100,3,E.length,E.flatMap enD,false⟩),(1003,⟨123,5,W.length,W.flatMap wrD,false⟩)]
abbrev Q7Q(v1 v2:Value):Part:=.many [.cell v1,.cell v2]
abbrev Q7U(v1 v2 v3:Value):Prop:=v1.oneCell'=true/\v2.oneCell'=true/\v3.oneCell'=true
def PaY(r:Except Flt Cst)(y:IV)(B1:BL)(R1:RL)(p1:List (Nat×Value)):Prop:=
 B1=[] /\ ∃ v1 v2 v3 A E W,Q7U v1 v2 v3/\p1=[(1001,v1),(1002,v2),(1003,v3)]/\R1=paR A E W /\
  ((∃ s,r=.ok s/\A.map (·.1)=s.msgs/\E=s.enums/\W=s.later/\y=.tup [Q7Q v1 v2,.one (.cell v3),Q7T 0 0 0]) \/ ∃ n l c,r=.error (n,l,c)/\n≠0/\y=.tup [Q7Q v1 v2,.one (.cell v3),Q7T (n:Int) l c])
theorem PaY.tidy{r:Except Flt Cst}{A:List MgV}{E:List En}{W:List Wish}(y:IV)(B1:BL)(R1:RL)(p1:List (Nat×Value))(h:PaY r y B1 R1 p1):NU [] (paR A E W) y B1 R1 p1:=by
 obtain⟨rfl,v1,v2,v3,A',E',W',_,rfl,rfl,⟨s,_,_,_,_,rfl⟩ | ⟨n,l,c,_,_,rfl⟩⟩:=h<;>exact⟨⟨rfl,rfl,rfl,rfl⟩,fun x hx=>by
  rcases List.mem_cons.1 hx with rfl | hx
  ·exact .head _
  rcases List.mem_cons.1 hx with rfl | hx
  ·exact .tail _ (.head _)
  obtain rfl:=List.mem_singleton.1 hx
  exact .tail _ (.tail _ (.head _))⟩
theorem Q3Q(x y:Fd):GO Tryz.prog .neq 61 (.agg (fdV x).toArray) (.agg (fdV y).toArray) (.bool (!Q08 (fdV x=fdV y))):=
 Q45 (by kernel_rfl) (by kernel_rfl) (by kernel_rfl) (NH (ks:=[1,0,0,0,0,2,0,0,0]) (by kernel_rfl) (.str _ _ (.int _ _ _ (.int _ _ _ (.int _ _ _ (.int _ _ _ (.bool _ _ (.int _ _ _ (.int _ _ _ (.int _ _ _ .nil))))))))))
structure SchLe (A:List Mg) (E:List En):Prop where
 al:A.length<=1000
 el:E.length<=1000
 fl:∀ g∈A,g.fields.length<=1000/\g.oneofs.length<=100000000000
 nl:∀ e∈E,e.names.length<=1000/\e.numbers.length<=1000
abbrev byD(l:List UInt8):List Dat:=l.map fun b=>.cell (bv b)
abbrev bB(c0:IV):BL:=[(2,⟨264,[c0,.own 200]⟩)]
abbrev bR(l:List UInt8):RL:=[(200,⟨5,1,l.length,byD l,false⟩)]
def BY(l:List UInt8)(y0 y:IV)(B1:BL)(R1:RL):Prop:=y=y0/\B1=bB (.box 2 0)/\R1=bR l
theorem BY.tidy{l m:List UInt8}{c0:IV}{ps:List Part}(y:IV)(B1:BL)(R1:RL)(h:BY l (.tup ps) y B1 R1):H0 (bB c0) (bR m) y B1 R1:=by
 obtain⟨rfl,rfl,rfl⟩:=h
 exact⟨rfl,rfl,rfl,rfl⟩
theorem U2(v:Value)(w:World):(callFunc 204 #[v]).run Tryz.prog w=.ok (.value v) w:=by
 rw[run_callFunc_extern (e:=Extern.AbiNoEscape.same) Tryz.func204 (by kernel_rfl) (by kernel_rfl) (by rfl) (by rfl),Lib.run_noEscape]
 rfl
theorem TI(gls:List (Nat×List Value))(l:List UInt8):EG Tryz.prog gls 167 [.box 2 0] (bB (.is (.pointer none))) (bR l) (BY l (.tup [])):=by
 refine B4 20 Tryz.func167 rfl rfl rfl fun w D bor mb=>?_
 try refine A0 ?_
 refine A1 (AA rfl rfl rfl rfl rfl (A5 rfl rfl rfl (AL rfl (kn rfl)) (A5 rfl rfl rfl (A3 rfl (kn rfl) off_264_0) (A5 rfl rfl rfl (A4 rfl (kn rfl) rfl rfl one_262) (A5 rfl rfl rfl (Q3b rfl (kn rfl) (by kernel_rfl)) .nil))))) ?_
 try refine A0 ?_
 refine BD ?_
 try refine A0 ?_
 refine A8 ?_
 refine AJ ?_
 refine AJ ?_
 refine AB (Q7V (t:=264) rfl (kn rfl) rfl (by kernel_rfl) (by kernel_rfl) (by kernel_rfl) rfl) ?_
 refine AB (Q6Z rfl U2 (kn rfl)) ?_
 refine AB (Q5I (u:=264) rfl (kn rfl) rfl (by kernel_rfl) (by kernel_rfl) (by kernel_rfl) (by kernel_rfl)) ?_
 refine AB (AL rfl (kn rfl)) ?_
 refine AB (A3 rfl (kn rfl) off_264_0) ?_
 refine C3 rfl rfl rfl (kn rfl) rfl (kn rfl) rfl rfl sz_262 rfl ?_
 refine A6 ?_
 try refine A0 ?_
 exact Q3N (bB (.box 2 0)) (bR l) rfl .nil (Imp.refl _) ⟨s_b,trivial⟩ ⟨rfl,trivial⟩ ⟨rfl,rfl,rfl⟩
theorem TK(gls:List (Nat×List Value))(l:List UInt8):EG Tryz.prog gls 167 [.box 2 0] (bB (.box 2 0)) (bR l) (BY l (.tup [])):=by
 refine B4 20 Tryz.func167 rfl rfl rfl fun w D bor mb=>?_
 try refine A0 ?_
 refine A1 (AA rfl rfl rfl rfl rfl (A5 rfl rfl rfl (AL rfl (kn rfl)) (A5 rfl rfl rfl (A3 rfl (kn rfl) off_264_0) (A5 rfl rfl rfl (A4 rfl (kn rfl) rfl rfl one_262) (A5 rfl rfl rfl (Q2u rfl (kn rfl) (by kernel_rfl)) .nil))))) ?_
 try refine A0 ?_
 refine C1 ?_
 try refine A0 ?_
 refine A1 (AA rfl rfl rfl rfl rfl (A5 rfl rfl rfl (AL rfl (kn rfl)) (A5 rfl rfl rfl (A3 rfl (kn rfl) off_264_0) (A5 rfl rfl rfl (A4 rfl (kn rfl) rfl rfl one_262) (AA rfl rfl rfl rfl rfl (A5 rfl rfl rfl (Q3t (te:=264) rfl (kn rfl) (kn rfl) (by kernel_rfl) (by kernel_rfl)) .nil)))))) ?_
 try refine A0 ?_
 refine C1 ?_
 try refine A0 ?_
 exact Q3N (bB (.box 2 0)) (bR l) rfl .nil (Imp.refl _) ⟨s_b,trivial⟩ ⟨rfl,trivial⟩ ⟨rfl,rfl,rfl⟩
theorem Y3(gls:List (Nat×List Value))(c0:IV)(h0:c0=.is (.pointer none)\/c0=.box 2 0)(l:List UInt8):EG Tryz.prog gls 167 [.box 2 0] (bB c0) (bR l) (BY l (.tup [])):=by
 rcases h0 with rfl | rfl
 ·exact TI gls l
 ·exact TK gls l
theorem Q1s(gls:List (Nat×List Value))(c0:IV)(h0:c0=.is (.pointer none)\/c0=.box 2 0)(l t:List UInt8)(hl:l.length+t.length<=140737488355328):EG Tryz.prog gls 128 [.box 2 0,.part (sP t)] (bB c0) (bR l) (BY (l++t) (.tup [iP t.length,IS])):=by
 refine B4 19 Tryz.func128 rfl rfl rfl fun w D bor mb=>?_
 try refine A0 ?_
 refine A1 (AE rfl rfl rfl rfl rfl (AE rfl rfl rfl rfl rfl .nil)) ?_
 try refine A0 ?_
 refine A8 ?_
 refine AJ ?_
 refine AH rfl rfl rfl rfl (by kernel_rfl) (Y3 gls c0 h0 l) ⟨rfl,trivial⟩ ⟨rfl,trivial⟩ ⟨(kn rfl),trivial⟩ (BY.tidy) ?_
 rintro _ _ _ ⟨rfl,rfl,rfl⟩
 refine A6 ?_
 try refine A0 ?_
 refine A8 ?_
 refine AJ ?_
 refine AJ ?_
 refine AB (AL rfl (kn rfl)) ?_
 refine AB (A3 rfl (kn rfl) off_264_1) ?_
 refine AB (A4 rfl (kn rfl) rfl rfl one_154) ?_
 refine AJ ?_
 refine WJ rfl rfl rfl rfl (kn rfl) rfl (kn rfl) sl_154 str_9 (by kernel_rfl) (by omega) ?_
 refine AB (AL rfl (kn rfl)) ?_
 refine AB (A3 rfl (kn rfl) off_264_1) ?_
 refine B6 rfl rfl rfl (kn rfl) rfl (kn rfl) rfl rfl sz_154 rfl ?_
 refine A6 ?_
 try refine A0 ?_
 refine A1 (AA rfl rfl rfl rfl rfl (A5 rfl rfl rfl (GI rfl (kn rfl) str_9) (AE rfl rfl rfl rfl rfl (AE rfl rfl rfl rfl rfl .nil)))) ?_
 try refine A0 ?_
 exact A7 (bB (.box 2 0)) (bR (l++t)) rfl (.tmp (kn rfl) (.tmp (kn rfl) (.nil))) (Imp.refl _) ⟨s_b,trivial⟩ ⟨E4 rfl (by simp) (by simp[byD]),trivial⟩ (⟨rfl,rfl,rfl⟩)
structure Else (g:Nat) (w w':World):Prop where
 os:w'.os=w.os
 tape:w'.tape=w.tape
 output:w'.output=w.output
 size:w'.heap.size=w.heap.size
 block:∀ k,k≠g->w'.heap[k]?=w.heap[k]?
theorem ZY(w:World)(g n:Nat):Else g w (w.freeze ⟨g,0,none⟩ n):=by
 unfold World.freeze
 split
 ·exact⟨rfl,rfl,rfl,rfl,fun _ _=>rfl⟩
 ·exact⟨rfl,rfl,rfl,by simp,fun k hk=>by
   simp only[Array.getElem?_modify]
   rw[if_neg (Ne.symm hk)]⟩
theorem Q2O{g:Nat}{w w':World}(h:Else g w.drew w'):Else g w w':=⟨h.os,h.tape,h.output,h.size,h.block⟩
theorem Q2p:Tryz.prog.cellsOf 5=1:=by kernel_rfl
set_option maxHeartbeats 1000000 in
theorem Q1j(w:World)(b:Nat)(l:List UInt8)(p v:Value)(hk:Blk w b 264 [p,v])(hown:w.ownsRow 0 5 1 v l.length (l.map bv))(hl:l≠[])(hlen:l.length<=140737488355328):
  Calls Tryz.prog 129 #[.pointer (some ⟨b,0,none⟩)] w fun e w'=>e=.returned (.string (str l)) /\ ∃ g,v.ownBlock=some g/\Else g w w':=by
 have hpos:0<l.length:=List.length_pos_iff.2 hl
 obtain⟨g,cap,rest,rfl,_,hg,hnc,_,_⟩:=Q6a hown hpos
 have c1:w.drew.cell? ⟨b,1,none⟩=some (.slice (some ⟨g,0,none⟩) l.length cap):=(hk.drewN 1).cell 1
 have hdata:(Builtin.unsafeSliceData_ #[154] 317 #[.slice (some ⟨g,0,none⟩) l.length cap]).run Tryz.prog w.drew=.ok (.pointer (some ⟨g,0,none⟩)) w.drew:=Lib.run_unsafeSliceData_row _ _ _ _ _ _ (by omega)
 have hstr:(Builtin.unsafeString_ #[317,3] 9 #[.pointer (some ⟨g,0,none⟩),.int .i64 (l.length:Int)]).run Tryz.prog w.drew=.ok (.string (str l)) (w.drew.freeze ⟨g,0,none⟩ l.length):=
  Lib.run_unsafeString_row _ _ _ _ 5 Tryz.underlying317 Q2p g (l.map bv++rest).length (O9 (hg.drewN 1)) l hl (by simp) (by omega) fun j x hx=>by
   have hj:j<l.length:=(List.getElem?_eq_some_iff.1 hx).1
   rw[Addr.add_lit,Nat.zero_add,(hg.drewN 1).cell,List.getElem?_append_left (by simpa using hj),List.getElem?_map,hx]
   rfl
 have hend:∃ h,(Value.slice (some ⟨g,0,none⟩) l.length cap).ownBlock=some h/\Else h w (w.drew.freeze ⟨g,0,none⟩ l.length):=⟨g,rfl,Q2O (ZY _ _ _)⟩
 clear hk hown hg hl
 go_enter Tryz.func129,Tryz.ntmps129
 go_wp2
 go_region
 all_goals
  go_wp2
  go_ret
  exact⟨rfl,hend⟩
def StrY(l:List UInt8)(y:IV)(B1:BL)(R1:RL):Prop:=y=.part (sP l)/\B1=[(2,⟨264,[.junk,.junk]⟩)]/\R1=[(200,⟨5,1,0,[],true⟩)]
theorem StrY.tidy{l m:List UInt8}{c0:IV}(y:IV)(B1:BL)(R1:RL)(h:StrY l y B1 R1):H0 (bB c0) (bR m) y B1 R1:=by
 obtain⟨rfl,rfl,rfl⟩:=h
 exact⟨rfl,rfl,rfl,rfl⟩
theorem UU{w:World}{D:Nat->Prop}:∀ {cs xs:List Value},Fits w D (cs.map .cell) xs->xs=cs
 | [],xs,h=>List.length_eq_zero_iff.1 (by simpa using h.1.symm)
 | c::cs,xs,h=>by
  obtain⟨x,ys,rfl,h1,h2⟩:=h.head
  rw[h1.cell_eq,UU h2]
theorem Q3A(gls:List (Nat×List Value))(c0:IV)(l:List UInt8)(hl:l≠[])(hlen:l.length<=140737488355328):EG Tryz.prog gls 129 [.box 2 0] (bB c0) (bR l) (StrY l):=fun w D M V vs n hh hp=>by
 obtain⟨v,rfl,hv⟩:∃ v,vs=[v]/\v=.pointer (some ⟨M 2,0,none⟩):=by
  match vs,hp with
  | [v],h=>exact⟨v,rfl,h.1⟩
 subst hv
 obtain⟨hb1,cs,hblk,hfit⟩:=hh.box 2 ⟨264,[c0,.own 200]⟩ rfl
 have hrow:=hh.row 200 ⟨5,1,l.length,byD l,false⟩ rfl
 obtain⟨xs,hown,hfx⟩:Gr w _ 0 5 1 (V 200) l.length (byD l):=Gx.row hrow rfl
 have hxs:xs=l.map bv:=UU (by rw[List.map_map];exact hfx)
 subst hxs
 obtain⟨p,v2,rfl⟩:∃ p v2,cs=[p,v2]:=by
  match cs,hfit.1 with
  | [p,v2],_=>exact⟨p,v2,rfl⟩
 have hv2:v2=V 200:=(hfit.2 1 (.own 200) v2 rfl rfl).1
 subst hv2
 refine(Q1j w (M 2) l p (V 200) hblk hown hl hlen).mono fun e w' ⟨h1,g,h2,h3⟩=>?_
 replace h2:=(D5 hown).trans h2
 have hg:M 2≠g:=hh.br 2 200 _ _ g rfl rfl rfl (.inl h2)
 have hbor:Bor (bB c0) (bR l) M V g:=.inr ⟨200,_,rfl,rfl,.inl h2⟩
 refine⟨_,_,_,_,M,fun _=>.slice none 0 0,h1,⟨rfl,rfl,rfl⟩,⟨⟨h3.os,h3.tape,h3.output,Nat.le_of_eq h3.size.symm,fun k hk hnb=>h3.block k fun e=>hnb (e▸hbor)⟩,hh.d0,hh.bl,hh.gl,fun b x hx=>?_,fun r x hx=>?_,fun r x g hx hf=>?_,hh.pin,fun b c x y hx hy _=>?_,fun b r x y g hx hy hf=>?_,fun r q x y g hx hy hf=>?_⟩,.cell _⟩
 ·rcases AK hx with⟨rfl,rfl⟩ | ⟨_,hx⟩
  ·exact⟨hb1,_,by unfold Blk at hblk ⊢;rw[h3.block _ hg];exact hblk,rfl,fun j x v hx hv=>⟨by
    match j,hx with
    | 0,hx=>obtain rfl:=Option.some.inj hx;trivial
    | 1,hx=>obtain rfl:=Option.some.inj hx;trivial
    | j+2,hx=>simp at hx,by
    match j,hv with
    | 0,hv=>exact(hfit.2 0 _ v rfl hv).2
    | 1,hv=>exact(hfit.2 1 _ v rfl hv).2
    | j+2,hv=>simp at hv⟩⟩
  ·cases hx
 ·rcases AK hx with⟨rfl,rfl⟩ | ⟨_,hx⟩
  ·exact .none _ _ _
  ·cases hx
 ·rcases AK hx with⟨rfl,rfl⟩ | ⟨_,hx⟩
  ·cases hf
  ·cases hx
 ·rcases AK hx with⟨rfl,rfl⟩ | ⟨_,hx⟩
  ·rcases AK hy with⟨rfl,rfl⟩ | ⟨_,hy⟩
   ·rfl
   ·cases hy
  ·cases hx
 ·rcases AK hy with⟨rfl,rfl⟩ | ⟨_,hy⟩
  ·cases hf
  ·cases hy
 ·rcases AK hx with⟨rfl,rfl⟩ | ⟨_,hx⟩
  ·cases hf
  ·cases hx
end Go.Proofs.YtgcphgdkddihcaaGreatDoor
