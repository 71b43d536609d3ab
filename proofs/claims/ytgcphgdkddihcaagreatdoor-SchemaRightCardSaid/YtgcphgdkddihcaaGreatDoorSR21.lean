/- Part 21. Conditions: as each theorem says. -/
import Derived.Test.YtgcphgdkddihcaaGreatDoorSR20
import Derived.Test.YtgcphgdkddihcaaGreatDoorProg
set_option maxRecDepth 100000
namespace Go.Proofs.YtgcphgdkddihcaaGreatDoor
open Go.RowKit
def FGd(k:Nat)(x:Fld):Prop:=x.name.length<=1000000/\x.type.length<=1000000/\x.key.length<=1000000/\(1<=x.label/\x.label<=4)/\(0<=x.packed/\x.packed<=2)/\(0<=x.oneof/\x.oneof<=(k:Int))
def EGd(e:Enm):Prop:=∀ v∈e.vals,v.name.length<=1000000
mutual
def Msg.gd:Msg->Prop
 | .mk _ f o m e _ _ _ _=>(∀ x∈f,FGd o.length x)/\(∀ x∈o,x.length<=1000000)/\(∀ x∈e,EGd x)/\Msg.gds m
def Msg.gds:List Msg->Prop
 | []=>True
 | k::ks=>k.gd/\Msg.gds ks
end
theorem Msg.gds_iff:∀ ms:List Msg,Msg.gds ms ↔ ∀ k∈ms,k.gd
 | []=>by simp[Msg.gds]
 | k::ks=>by rw[Msg.gds,Msg.gds_iff ks];simp
theorem Msg.gd_iff(m:Msg):m.gd↔((∀ x∈m.fields,FGd m.oneofs.length x)/\(∀ x∈m.oneofs,x.length<=1000000)/\(∀ x∈m.enums,EGd x) /\ ∀ k∈m.msgs,k.gd):=by
 obtain⟨nm,fs,os,ms,es,rs,ns,ln,cl⟩:=m
 rw[Msg.gd,Msg.gds_iff]
 rfl
structure Fil.gd (f:Fil):Prop where
 pk:f.package.length<=1000000
 en:∀ x∈f.enums,EGd x
 ms:∀ k∈f.msgs,k.gd
theorem GV(en:Bool)(x:Ty)(xs:List Ty):CA en (x::xs)=if x.en=en then x.full::CA en xs else CA en xs:=by
 unfold CA
 by_cases h:x.en=en
 ·rw[if_pos h,List.filter_cons_of_pos (by simp[h])]
  rfl
 ·rw[if_neg h,List.filter_cons_of_neg (by simp[h])]
theorem SA(en:Bool)(xs ys:List Ty):CA en (xs++ys)=CA en xs++CA en ys:=by
 unfold CA
 rw[List.filter_append,List.map_append]
theorem II(en:Bool):∀ {xs M L:List Ty},CC M xs=.ok L->CA en L=CA en M++CA en xs
 | [],M,L,h=>by
  obtain rfl:=Except.ok.inj h
  rw[show CA en []=[] from rfl,List.append_nil]
 | x::xs,M,L,h=>by
  unfold CC at h
  cases h1:JZ M x with
  | error e=>rw[h1]at h;cases h
  | ok N=>
   rw[h1]at h
   rw[II en h]
   unfold JZ at h1
   split at h1
   ·cases h1
   split at h1
   ·cases h1
   obtain rfl:=Except.ok.inj h1
   rw[SA,GV,GV,show CA en []=[] from rfl,List.append_assoc]
   congr 1
   by_cases he:x.en=en
   ·rw[if_pos he,if_pos he]
    rfl
   ·rw[if_neg he,if_neg he]
    rfl
theorem U6{α:Type}{l r:List α}{k:Nat}{a:α}(h:l.drop k=a::r):l[k]?=some a/\l.drop (k+1)=r:=by
 have h1:(l.drop k)[0]?=some a:=by rw[h];rfl
 rw[List.getElem?_drop,Nat.add_zero]at h1
 refine⟨h1,?_⟩
 rw[G8 h1]at h
 exact(List.cons.inj h).2
theorem Q2U(look:List UInt8->List UInt8->Option Ty)(ahead:List UInt8)(x:Enm)(es:List Enm)(m:List Msg)(s:Cst):J5 look ahead (x::es) m s=match addE s (enumM (ahead++x.name) x)with | .error e=>.error e | .ok s'=>J5 look ahead es m s':=by
 unfold J5
 rw[enmsM]
 cases enumM (ahead++x.name) x with
 | error e=>rfl
 | ok y=>rfl
theorem SP(look:List UInt8->List UInt8->Option Ty)(ahead:List UInt8)(m:List Msg)(s:Cst):J5 look ahead [] m s=manyM look ahead m s:=by
 unfold J5
 rw[enmsM]
theorem S3(look:List UInt8->List UInt8->Option Ty)(ahead:List UInt8)(x:Msg)(l:List Msg)(s:Cst):manyM look ahead (x::l) s=match addM s x (msgM look (ahead++x.name) x)with | .error e=>.error e | .ok s1=>match J5 look (ahead++x.name++[46]) x.enums x.msgs s1 with | .error e=>.error e | .ok s2=>manyM look ahead l s2:=by
 obtain⟨nm,fs,os,ms,es,rs,ns,ln,cl⟩:=x
 rw[manyM,oneM]
 show _=match addM s (Msg.mk nm fs os ms es rs ns ln cl) (msgM look (ahead++nm) (Msg.mk nm fs os ms es rs ns ln cl))with | .error e=>(.error e:Except Flt Cst) | .ok s1=>match J5 look (ahead++nm++[46]) es ms s1 with | .error e=>(.error e:Except Flt Cst) | .ok s2=>manyM look ahead l s2
 cases msgM look (ahead++nm) (Msg.mk nm fs os ms es rs ns ln cl)with
 | error e=>rfl
 | ok g=>
  simp only[addM,J5]
  show _=match (match enmsM (ahead++nm++[46]) es { s with msgs:=s.msgs++[g],later:=s.later++wishesOf s.msgs.length fs }with | .error x=>(.error x:Except Flt Cst) | .ok s'=>manyM look (ahead++nm++[46]) ms s')with | .error e=>(.error e:Except Flt Cst) | .ok s2=>manyM look ahead l s2
  cases enmsM (ahead++nm++[46]) es { s with msgs:=s.msgs++[g],later:=s.later++wishesOf s.msgs.length fs }with
  | error e=>rfl
  | ok s'=>rfl
theorem Q12{s s':Cst}{r:Except Flt En}(h:addE s r=.ok s'):s'.msgs=s.msgs/\s'.later=s.later/\s'.enums.length=s.enums.length+1:=by
 cases r with
 | error e=>cases h
 | ok y=>
  obtain rfl:=Except.ok.inj h
  exact⟨rfl,rfl,by rw[List.length_append];rfl⟩
theorem Q1t{look:List UInt8->List UInt8->Option Ty}{full:List UInt8}{m:Msg}{s s':Cst}(h:addM s m (msgM look full m)=.ok s'):s'.enums=s.enums/\s'.msgs.length=s.msgs.length+1/\s'.later.length<=s.later.length+40:=by
 unfold msgM at h
 cases hf:EE (look full) m 0 m.fields with
 | error e=>rw[hf]at h;cases h
 | ok fs=>
  rw[hf]at h
  dsimp only at h
  obtain⟨h1,h2,_⟩:=IC hf
  split at h
  ·obtain rfl:=Except.ok.inj h
   refine⟨rfl,by rw[List.length_append];rfl,?_⟩
   have:=MG s.msgs.length m.fields
   rw[List.length_append]
   omega
  ·cases h
def WOk(M:List Mg)(W:List Wish):Prop:=∀ w∈W,∃ q,M[w.msg]?=some q/\w.fld.number∈q.fields.map (·.number)
def RK(n:Nat)(s:Cst):Prop:=s.later.length<=40*s.msgs.length/\WOk s.msgs s.later/\(∀ q∈s.msgs,q.fields.length<=40)/\s.msgs.length<=n
theorem Q6b{n:Nat}{s s':Cst}{r:Except Flt En}(h:RK n s)(hr:addE s r=.ok s'):RK n s':=by
 obtain⟨q1,q2,_⟩:=Q12 hr
 unfold RK
 rw[q1,q2]
 exact h
theorem Q6c{n:Nat}{look:List UInt8->List UInt8->Option Ty}{full:List UInt8}{m:Msg}{s s':Cst}(hs:RK n s)(hn:s.msgs.length<n)(h:addM s m (msgM look full m)=.ok s'):RK n s':=by
 have h0:=Q1t h
 obtain⟨a1,a2,a3,a4⟩:=hs
 refine⟨by omega,?_⟩
 unfold msgM at h
 cases hf:EE (look full) m 0 m.fields with
 | error e=>rw[hf]at h;cases h
 | ok fs=>
  rw[hf]at h
  dsimp only at h
  obtain⟨h1,h2,_⟩:=IC hf
  obtain⟨h3,h4⟩:=K3 hf
  split at h
  ·obtain rfl:=Except.ok.inj h
   refine⟨fun w hw=>?_,fun q hq=>?_,by rw[List.length_append];exact hn⟩
   ·rcases List.mem_append.1 hw with hw | hw
    ·obtain⟨q,b1,b2⟩:=a2 w hw
     have hl:w.msg<s.msgs.length:=(List.getElem?_eq_some_iff.1 b1).1
     exact⟨q,by rw[List.getElem?_append_left hl];exact b1,b2⟩
    ·unfold wishesOf at hw
     obtain⟨x,hx,rfl⟩:=List.mem_map.1 hw
     have hx:=(List.mem_filter.1 hx).1
     obtain⟨j,hj⟩:=List.mem_iff_getElem?.1 hx
     have hjl:j<fs.length:=by rw[h1];exact(List.getElem?_eq_some_iff.1 hj).1
     obtain⟨f,hfj⟩:∃ f,fs[j]?=some f:=⟨_,List.getElem?_eq_getElem hjl⟩
     refine⟨_,by rw[List.getElem?_append_right (Nat.le_refl _),Nat.sub_self];rfl,List.mem_map.2 ⟨f,(H8 fs).mem_iff.2 (List.mem_of_getElem? hfj),(JE (h4 j f x hfj hj)).2.2.1⟩⟩
   ·rcases List.mem_append.1 hq with hq | hq
    ·exact a3 q hq
    ·obtain rfl:=List.mem_singleton.1 hq
     show(CU fs).length<=40
     rw[OH]
     exact h2
  ·cases h
def WaY(er:Nat->Er)(g:Nat)(L:List Ty)(nm ne rm re:List (List UInt8))(r:Except Flt Cst)(y:IV)(B1:BL)(R1:RL)(p1:List (Nat×Value)):Prop:=
 CY er g L nm ne r y B1 R1 p1 /\ ∀ s',r=.ok s'->nm.drop s'.msgs.length=rm/\ne.drop s'.enums.length=re/\RK nm.length s'
theorem WaY.tidy{er:Nat->Er}{g:Nat}{L:List Ty}{nm ne rm re:List (List UInt8)}{r:Except Flt Cst}{A:List MgV}{E:List En}{W:List Wish}(y:IV)(B1:BL)(R1:RL)(p1:List (Nat×Value))(h:WaY er g L nm ne rm re r y B1 R1 p1):NU (coB L nm ne) (coR (pcV g) A E W) y B1 R1 p1:=CY.tidy _ _ _ _ h.1
abbrev KP(e:List Enm)(m:List Msg):List IV:=[.part (.one (.row 4 e.length (e.flatMap Enm.dats))),.part (.one (.row 9 m.length (m.flatMap Msg.dats))),.clo (.func 52) [.box 1000 0] [],.clo (.func 53) [.box 1000 0] []]
set_option maxHeartbeats 8000000 in
theorem UC(er:Nat->Er)(g:Nat)(L:List Ty)(hL:GC L)(nm ne:List (List UInt8))(hnm:nm.length<=1000)(hne:ne.length<=1000)(N:Nat)(hN:N<=1000000)(d t:Nat)(ahead:List UInt8)(e:List Enm)(m:List Msg)(ha:ahead.length+(t+1)*(N+2)<=100000000)
  (hel:e.length<=100000000000) (hml:m.length<=100000000000) (he:∀ x∈e,NmOk N x.name/\x.fine/\EGd x) (hm:∀ k∈m,MOk N (d+1) k/\k.fine/\k.gd)
  (ih:∀ x∈m,∀ (ahead':List UInt8) (A:List MgV) (s:Cst) (rm re:List (List UInt8)),ahead'.length+t*(N+2)<=100000000->A.map (·.1)=s.msgs->nm.drop s.msgs.length=CA false (E1 ahead' x.enums x.msgs)++rm->ne.drop s.enums.length=CA true (E1 ahead' x.enums x.msgs)++re->RK nm.length s ->
   EGp Tryz.prog (gC er) 51 (KP x.enums x.msgs) (coB L nm ne) (coR (pcV g) A s.enums s.later) [] (At g) (WaY er g L nm ne rm re (J5 (BJ L) ahead' x.enums x.msgs s)))
  (A:List MgV) (s:Cst) (rm re:List (List UInt8)) (hA:A.map (·.1)=s.msgs) (hnm1:nm.drop s.msgs.length=CA false (E1 ahead e m)++rm) (hne1:ne.drop s.enums.length=CA true (E1 ahead e m)++re) (hlt:RK nm.length s):
  EGp Tryz.prog (gC er) 51 (KP e m) (coB L nm ne) (coR (pcV g) A s.enums s.later) [] (At g) (WaY er g L nm ne rm re (J5 (BJ L) ahead e m s)):=by
 have ha':ahead.length+t*(N+2)+(N+2)<=100000000:=by rw[Nat.succ_mul]at ha;omega
 refine GY 52 Tryz.func51 rfl rfl rfl fun w D bor mb hpre=>?_
 try refine A0 ?_
 obtain rfl:mb 1000=g:=hpre
 refine A1 (AE rfl rfl rfl rfl rfl .nil) ?_
 try refine A0 ?_
 refine A1 (AA rfl rfl rfl rfl rfl (A5 rfl rfl rfl (CI rfl (kn rfl) sle_40) (AA rfl rfl rfl rfl rfl .nil))) ?_
 try refine A0 ?_
 refine CB (ι:={ i:Nat×List MgV×Cst // i.1<=e.length/\i.2.1.map (·.1)=i.2.2.msgs/\nm.drop i.2.2.msgs.length=CA false (E1 ahead (e.drop i.1) m)++rm/\ne.drop i.2.2.enums.length=CA true (E1 ahead (e.drop i.1) m)++re/\RK nm.length i.2.2/\J5 (BJ L) ahead e m s=J5 (BJ L) ahead (e.drop i.1) m i.2.2 })
  (fun i=>[(1,.part (.one (.row 9 m.length (m.flatMap Msg.dats)))),(2,.clo (.func 52) [.box 1000 0] []),(3,.clo (.func 53) [.box 1000 0] []),(16,.part (.one (.row 4 e.length (e.flatMap Enm.dats)))),(17,.is (.int .i64 (e.length:Int))),(18,.is (.int .i64 (i.1.1:Int)))])
  (fun _=>coB L nm ne) (fun i=>coR (pcV (mb 1000)) i.1.2.1 i.1.2.2.enums i.1.2.2.later) (fun i=>e.length-i.1.1)
  ⟨(0,A,s),by dsimp only;omega,hA,hnm1,hne1,hlt,rfl⟩
  (fun K=>B8 ⟨s_t,s_t,s_t,s_t,s_t,s_t,trivial⟩ ⟨s_b,trivial⟩ ⟨rfl,rfl,rfl,trivial⟩) ?_
 ·rintro⟨⟨i,A,s1⟩,hi,hA,hnm1,hne1,hlt,hinv⟩
  dsimp only at hi hA hnm1 hne1 hlt hinv ⊢
  try refine A0 ?_
  refine A1 (A5 rfl rfl rfl (AN rfl (kn rfl) (kn rfl) CP) .nil) ?_
  try refine A0 ?_
  refine AO rfl (fun h=>?_) (fun h=>?_)
  ·have hil:i<e.length:=by have:=of_decide_eq_true h;omega
   obtain⟨x,hx⟩:∃ x,e[i]?=some x:=⟨_,List.getElem?_eq_getElem hil⟩
   obtain⟨⟨hx1,hx2,hx3⟩,hxf,hxg⟩:=he x (List.mem_of_getElem? hx)
   have hty:E1 ahead (e.drop i) m=tyE ahead x::E1 ahead (e.drop (i+1)) m:=by rw[G8 hx];rfl
   rw[hty,GV,if_neg (by show ¬ true=false;decide)]at hnm1
   rw[hty,GV,if_pos (show(tyE ahead x).en=true from rfl),List.cons_append]at hne1
   obtain⟨hfull,hne2⟩:=U6 hne1
   rw[G8 hx,Q2U]at hinv
   try refine A0 ?_
   refine A8 ?_
   refine AB (BO rfl (kn rfl) (kn rfl) (by omega) hx Enm.dats_len sle_40 esz_40 rfl) ?_
   refine AB (BQ rfl (kn rfl) agg_200 sz_200) ?_
   refine AS 10 [.is (.string ⟨#[]⟩),.is (.slice none 0 0),.is (.int .i64 0),.is (.int .i64 0)] rfl rfl rfl rfl zr_200 (fun w D M V=>⟨rfl,fun j x v h1 h2=>AR _ h1 h2 rfl⟩) rfl rfl rfl rfl ?_
   refine AI rfl rfl rfl (kn rfl) rfl (kn rfl) rfl rfl sz_200 ?_
   refine A6 ?_
   try refine A0 ?_
   refine A8 ?_
   refine AJ ?_
   refine AB (AT (ds:=[_,_,_,_]) 4 rfl (kn rfl) rfl rfl agg_200 sz_200 rfl) ?_
   refine X7 (zs:=[.part (.many x.dats)]) rfl rfl rfl rfl (by kernel_rfl) (kn rfl) (KnX.all ⟨kn rfl,trivial⟩) rfl (Q6S er (mb 1000) L nm ne hne A s1 hA (ahead++x.name) hfull x hxf (fun v hv=>by have:=hxg v hv;omega)) ⟨rfl,trivial⟩ ⟨rfl,rfl,rfl,trivial⟩ (fun M h=>h 1000 (.head _)) trivial CY.tidy ?_
   rintro _ _ _ _ ⟨rfl,rfl,(⟨s',A',hr,rfl,hA',rfl⟩ | ⟨n,li,co,A',E',W',hr,rfl,rfl⟩)⟩
   ·obtain⟨q1,q2,q3⟩:=Q12 hr
    rw[hr]at hinv
    refine AG ?_
    refine A6 ?_
    try refine A0 ?_
    refine A1 (AA rfl rfl rfl rfl rfl (A5 rfl rfl rfl (AQ rfl (kn rfl) ifc_28) .nil)) ?_
    try refine A0 ?_
    refine C1 ?_
    try refine A0 ?_
    refine A1 (A5 rfl rfl rfl (AN rfl (kn rfl) (kn rfl) (BF (by first | omega | (dsimp only;omega)))) (AA rfl rfl rfl rfl rfl .nil)) ?_
    try refine A0 ?_
    refine BB ⟨(i+1,A',s'),by dsimp only;omega,hA',by dsimp only;rw[q1];exact hnm1,by dsimp only;rw[q3];exact hne2,Q6b hlt hr,hinv⟩ (by dsimp only;omega) (fun K=>B8 ⟨s_t,s_t,s_t,s_t,s_t,s_t,trivial⟩ ⟨s_b,trivial⟩ ⟨rfl,rfl,rfl,trivial⟩)
   ·rw[hr]at hinv
    rw[hinv]
    refine AG ?_
    refine A6 ?_
    try refine A0 ?_
    refine A1 (AA rfl rfl rfl rfl rfl (A5 rfl rfl rfl (AP rfl (kn rfl) rfl ifc_28) .nil)) ?_
    try refine A0 ?_
    refine BD ?_
    try refine A0 ?_
    refine A1 (AA rfl rfl rfl rfl rfl (AE rfl rfl rfl rfl rfl .nil)) ?_
    try refine A0 ?_
    exact BS (coB L nm ne) (coR (pcV (mb 1000)) A' E' W') ([]) rfl (.tmp (kn rfl) (.nil)) (Imp.refl _) ⟨s_b,trivial⟩ ⟨rfl,rfl,rfl,trivial⟩ trivial (⟨⟨rfl,rfl,.inr ⟨n,li,co,A',E',W',rfl,rfl,rfl⟩⟩,fun s' h=>by cases h⟩)
  obtain rfl:i=e.length:=by have:=of_decide_eq_false h;omega
  rw[List.drop_length]at hnm1 hne1 hinv
  rw[SP]at hinv
  try refine A0 ?_
  refine A1 (AA rfl rfl rfl rfl rfl (A5 rfl rfl rfl (CI rfl (kn rfl) sle_39) (AA rfl rfl rfl rfl rfl .nil))) ?_
  try refine A0 ?_
  refine CB (ι:={ i:Nat×List MgV×Cst // i.1<=m.length/\i.2.1.map (·.1)=i.2.2.msgs/\nm.drop i.2.2.msgs.length=CA false (tyMs ahead (m.drop i.1))++rm/\ne.drop i.2.2.enums.length=CA true (tyMs ahead (m.drop i.1))++re/\RK nm.length i.2.2/\J5 (BJ L) ahead e m s=manyM (BJ L) ahead (m.drop i.1) i.2.2 })
   (fun i=>[(2,.clo (.func 52) [.box 1000 0] []),(3,.clo (.func 53) [.box 1000 0] []),(29,.part (.one (.row 9 m.length (m.flatMap Msg.dats)))),(30,.is (.int .i64 (m.length:Int))),(31,.is (.int .i64 (i.1.1:Int)))])
   (fun _=>coB L nm ne) (fun i=>coR (pcV (mb 1000)) i.1.2.1 i.1.2.2.enums i.1.2.2.later) (fun i=>m.length-i.1.1)
   ⟨(0,A,s1),by dsimp only;omega,hA,hnm1,hne1,hlt,hinv⟩
   (fun K=>B8 ⟨s_t,s_t,s_t,s_t,s_t,trivial⟩ ⟨s_b,trivial⟩ ⟨rfl,rfl,rfl,trivial⟩) ?_
  clear hinv hi h hnm1 hne1 hlt hA A s1
  rintro⟨⟨i,A,s1⟩,hi,hA,hnm1,hne1,hlt,hinv⟩
  dsimp only at hi hA hnm1 hne1 hlt hinv ⊢
  try refine A0 ?_
  refine A1 (A5 rfl rfl rfl (AN rfl (kn rfl) (kn rfl) CP) .nil) ?_
  try refine A0 ?_
  refine AO rfl (fun h=>?_) (fun h=>?_)
  ·have hil:i<m.length:=by have:=of_decide_eq_true h;omega
   obtain⟨x,hx⟩:∃ x,m[i]?=some x:=⟨_,List.getElem?_eq_getElem hil⟩
   obtain⟨hxo,hxf,hxg⟩:=hm x (List.mem_of_getElem? hx)
   obtain⟨⟨hx1,hx2,hx3⟩,hxe,hxm⟩:=hxo.all
   obtain⟨g1,g2,g3,g4⟩:=(Msg.gd_iff x).1 hxg
   have hty:tyMs ahead (m.drop i)=⟨ahead++x.name,false,0,x.line,x.col⟩::(E1 (ahead++x.name++[46]) x.enums x.msgs++tyMs ahead (m.drop (i+1))):=by rw[G8 hx,tyMs,Q0q];rfl
   rw[hty,GV,if_pos (show(⟨ahead++x.name,false,0,x.line,x.col⟩:Ty).en=false from rfl),SA,List.cons_append,List.append_assoc]at hnm1
   rw[hty,GV,if_neg (by show ¬ false=true;decide),SA,List.append_assoc]at hne1
   obtain⟨hfull,hnm2⟩:=U6 hnm1
   rw[G8 hx,S3]at hinv
   have hlt1:=hlt.1
   have hsl:s1.msgs.length<nm.length:=(List.getElem?_eq_some_iff.1 hfull).1
   have hfl:(ahead++x.name).length<=100000000:=by rw[List.length_append];omega
   have hal:(ahead++x.name++[46]).length+t*(N+2)<=100000000:=by
    rw[List.length_append,List.length_append,List.length_singleton]
    omega
   try refine A0 ?_
   refine A8 ?_
   refine AB (BO rfl (kn rfl) (kn rfl) (by omega) hx Msg.dats_len sle_39 esz_39 (KX x)) ?_
   refine AB (BQ rfl (kn rfl) agg_204 sz_204) ?_
   refine AS 13 [.is (.string ⟨#[]⟩),.is (.slice none 0 0),.is (.slice none 0 0),.is (.slice none 0 0),.is (.slice none 0 0),.is (.slice none 0 0),.is (.slice none 0 0),.is (.int .i64 0),.is (.int .i64 0)] rfl rfl rfl rfl zr_204 (fun w D M V=>⟨rfl,fun j x v h1 h2=>AR _ h1 h2 rfl⟩) rfl rfl rfl rfl ?_
   refine AI rfl rfl rfl (kn rfl) rfl (kn rfl) rfl rfl sz_204 ?_
   refine A6 ?_
   try refine A0 ?_
   refine A8 ?_
   refine AJ ?_
   refine AB (AT (ds:=[_,_,_,_,_,_,_,_,_]) 9 rfl (kn rfl) rfl rfl agg_204 sz_204 rfl) ?_
   refine X7 (zs:=[.part (.many (md x))]) rfl rfl rfl rfl (by kernel_rfl) (kn rfl) (KnX.all ⟨kn rfl,trivial⟩) rfl (Q2i er (mb 1000) L hL nm ne hnm A s1 hA (by omega) (ahead++x.name) hfull hfl x hxf (fun f hf=>⟨by have:=(g1 f hf).1;omega,by have:=(g1 f hf).2.1;omega⟩) (fun o ho=>by have:=g2 o ho;omega)) ⟨rfl,trivial⟩ ⟨rfl,rfl,rfl,trivial⟩ (fun M h=>h 1000 (.head _)) trivial CY.tidy ?_
   rintro _ _ _ _ ⟨rfl,rfl,(⟨s',A',hr,rfl,hA',rfl⟩ | ⟨n,li,co,A',E',W',hr,rfl,rfl⟩)⟩
   ·obtain⟨q1,q2,q3⟩:=Q1t hr
    rw[hr]at hinv
    dsimp only at hinv
    refine AG ?_
    refine A6 ?_
    try refine A0 ?_
    refine A1 (AA rfl rfl rfl rfl rfl (A5 rfl rfl rfl (AQ rfl (kn rfl) ifc_28) .nil)) ?_
    try refine A0 ?_
    refine C1 ?_
    try refine A0 ?_
    refine A8 ?_
    refine AB (A3 rfl (kn rfl) off_204_4) ?_
    refine AB (A4 rfl (kn rfl) rfl rfl one_40) ?_
    refine AB (A3 rfl (kn rfl) off_204_3) ?_
    refine AB (A4 rfl (kn rfl) rfl rfl one_39) ?_
    refine AJ ?_
    refine AJ ?_
    refine Q2 rfl rfl rfl rfl (by kernel_rfl) (ys:=KP x.enums x.msgs) (KnX.all ⟨kn rfl,kn rfl,kn rfl,kn rfl,trivial⟩) (ih x (List.mem_of_getElem? hx) (ahead++x.name++[46]) A' s' (CA false (tyMs ahead (m.drop (i+1)))++rm) (CA true (tyMs ahead (m.drop (i+1)))++re) hal hA' (by rw[q2];exact hnm2) (by rw[q1];exact hne1) (Q6c hlt hsl hr)) ⟨rfl,trivial⟩ ⟨rfl,rfl,rfl,trivial⟩ (fun M h=>h 1000 (.head _)) trivial WaY.tidy ?_
    rintro _ _ _ _ ⟨⟨rfl,rfl,(⟨s2,A2,hr2,rfl,hA2,rfl⟩ | ⟨n,li,co,A2,E2,W2,hr2,rfl,rfl⟩)⟩,hx2⟩
    ·obtain⟨w1,w2,w3⟩:=hx2 s2 hr2
     rw[hr2]at hinv
     refine AG ?_
     refine A6 ?_
     try refine A0 ?_
     refine A1 (AA rfl rfl rfl rfl rfl (A5 rfl rfl rfl (AQ rfl (kn rfl) ifc_28) .nil)) ?_
     try refine A0 ?_
     refine C1 ?_
     try refine A0 ?_
     refine A1 (A5 rfl rfl rfl (AN rfl (kn rfl) (kn rfl) (BF (by first | omega | (dsimp only;omega)))) (AA rfl rfl rfl rfl rfl .nil)) ?_
     try refine A0 ?_
     refine BB ⟨(i+1,A2,s2),by dsimp only;omega,hA2,w1,w2,w3,hinv⟩ (by dsimp only;omega) (fun K=>B8 ⟨s_t,s_t,s_t,s_t,s_t,trivial⟩ ⟨s_b,trivial⟩ ⟨rfl,rfl,rfl,trivial⟩)
    ·rw[hr2]at hinv
     rw[hinv]
     refine AG ?_
     refine A6 ?_
     try refine A0 ?_
     refine A1 (AA rfl rfl rfl rfl rfl (A5 rfl rfl rfl (AP rfl (kn rfl) rfl ifc_28) .nil)) ?_
     try refine A0 ?_
     refine BD ?_
     try refine A0 ?_
     refine A1 (AA rfl rfl rfl rfl rfl (AE rfl rfl rfl rfl rfl .nil)) ?_
     try refine A0 ?_
     exact BS (coB L nm ne) (coR (pcV (mb 1000)) A2 E2 W2) ([]) rfl (.tmp (kn rfl) (.nil)) (Imp.refl _) ⟨s_b,trivial⟩ ⟨rfl,rfl,rfl,trivial⟩ trivial (⟨⟨rfl,rfl,.inr ⟨n,li,co,A2,E2,W2,rfl,rfl,rfl⟩⟩,fun s' h=>by cases h⟩)
   ·rw[hr]at hinv
    rw[hinv]
    refine AG ?_
    refine A6 ?_
    try refine A0 ?_
    refine A1 (AA rfl rfl rfl rfl rfl (A5 rfl rfl rfl (AP rfl (kn rfl) rfl ifc_28) .nil)) ?_
    try refine A0 ?_
    refine BD ?_
    try refine A0 ?_
    refine A1 (AA rfl rfl rfl rfl rfl (AE rfl rfl rfl rfl rfl .nil)) ?_
    try refine A0 ?_
    exact BS (coB L nm ne) (coR (pcV (mb 1000)) A' E' W') ([]) rfl (.tmp (kn rfl) (.nil)) (Imp.refl _) ⟨s_b,trivial⟩ ⟨rfl,rfl,rfl,trivial⟩ trivial (⟨⟨rfl,rfl,.inr ⟨n,li,co,A',E',W',rfl,rfl,rfl⟩⟩,fun s' h=>by cases h⟩)
  obtain rfl:i=m.length:=by have:=of_decide_eq_false h;omega
  rw[List.drop_length]at hnm1 hne1 hinv
  have hend:J5 (BJ L) ahead e m s=.ok s1:=by rw[hinv,manyM]
  rw[hend]
  try refine A0 ?_
  refine A1 (AE rfl rfl rfl rfl rfl .nil) ?_
  try refine A0 ?_
  exact BS (coB L nm ne) (coR (pcV (mb 1000)) A s1.enums s1.later) ([]) rfl (.tmp (kn rfl) (.nil)) (Imp.refl _) ⟨s_b,trivial⟩ ⟨rfl,rfl,rfl,trivial⟩ trivial (⟨⟨rfl,rfl,.inl ⟨s1,A,rfl,rfl,hA,rfl⟩⟩,fun s' h=>by obtain rfl:=Except.ok.inj h;exact⟨hnm1,hne1,hlt⟩⟩)
theorem Q4S(er:Nat->Er)(g:Nat)(L:List Ty)(hL:GC L)(nm ne:List (List UInt8))(hnm:nm.length<=1000)(hne:ne.length<=1000)(N:Nat)(hN:N<=1000000):∀ (d:Nat) (ahead:List UInt8) (e:List Enm) (m:List Msg) (A:List MgV) (s:Cst) (rm re:List (List UInt8)),ahead.length+(d+1)*(N+2)<=100000000->e.length<=100000000000->m.length<=100000000000->(∀ x∈e,NmOk N x.name/\x.fine/\EGd x)->(∀ k∈m,MOk N d k/\k.fine/\k.gd) ->
  A.map (·.1)=s.msgs->nm.drop s.msgs.length=CA false (E1 ahead e m)++rm->ne.drop s.enums.length=CA true (E1 ahead e m)++re->RK nm.length s ->
  EGp Tryz.prog (gC er) 51 (KP e m) (coB L nm ne) (coR (pcV g) A s.enums s.later) [] (At g) (WaY er g L nm ne rm re (J5 (BJ L) ahead e m s))
 | 0,ahead,e,m,A,s,rm,re,ha,hel,hml,he,hm,hA,h1,h2,h3=>UC er g L hL nm ne hnm hne N hN 0 0 ahead e m ha hel hml he (fun k hk=>((hm k hk).1:False).elim) (fun x hx=>((hm x hx).1:False).elim) A s rm re hA h1 h2 h3
 | d+1,ahead,e,m,A,s,rm,re,ha,hel,hml,he,hm,hA,h1,h2,h3=>UC er g L hL nm ne hnm hne N hN d (d+1) ahead e m ha hel hml he hm (fun x hx ahead' A' s' rm' re' ha' hA' q1 q2 q3=>by
   obtain⟨hxo,hxf,hxg⟩:=hm x hx
   have hx':=hxo.all
   have hf:=(Msg.fine_iff x).1 hxf
   have hg:=(Msg.gd_iff x).1 hxg
   exact Q4S er g L hL nm ne hnm hne N hN d ahead' x.enums x.msgs A' s' rm' re' ha' hf.2.2.2.1 hf.2.2.1 (fun y hy=>⟨hx'.2.1 y hy,hf.2.2.2.2.2.2.1 y hy,hg.2.2.1 y hy⟩) (fun k hk=>⟨hx'.2.2 k hk,hf.2.2.2.2.2.2.2 k hk,hg.2.2.2 k hk⟩) hA' q1 q2 q3) A s rm re hA h1 h2 h3
section
section
variable{cx:Cx}{T:TL}{B:BL}{R:RL}
theorem MR{K:Act->World->Prop}{t s r:Nat}{v0:Value}(ht:lk t T=some (.own r))(hp:lk s T=some (LQ r v0))(h:E cx ((t,.is v0)::T) B R K):E cx T B R K:=fun M V a w hr=>h M V a w ⟨hr.size,hr.defers,hr.heap,fun q z hz=>by
 rcases AK hz with⟨rfl,rfl⟩ | ⟨_,hz⟩
 ·have h1:V r=v0:=hr.tmp s _ hp
  have h2:a.tmps.getD t undef=V r:=hr.tmp t _ ht
  rw[h2,h1]
  exact .cell _
 ·exact hr.tmp q z hz⟩
end
end
theorem OT(n k:Int):∀ l:List Fd,(CS n k l).map (·.number)=l.map (·.number)
 | []=>rfl
 | f::l=>by
  unfold CS
  split
  ·rfl
  ·rw[List.map_cons,List.map_cons,OT n k l]
theorem Q2V{M M':List Mg}{w:Wish}(h:JM M w=some M'):∃ q k,M[w.msg]?=some q/\M'=M.set w.msg { q with fields:=CS w.fld.number k q.fields }:=by
 unfold JM at h
 cases hq:M[w.msg]? with
 | none=>rw[hq]at h;cases h
 | some q=>
  rw[hq]at h
  dsimp only at h
  split at h
  ·cases h
  split at h
  ·cases h
  split at h
  ·obtain rfl:=Option.some.inj h
   exact⟨q,_,rfl,rfl⟩
  ·cases h
theorem Q1L{M M':List Mg}{w:Wish}(h:JM M w=some M')(i:Nat):(M'[i]?).map (fun q=>q.fields.map (·.number))=(M[i]?).map fun q=>q.fields.map (·.number):=by
 obtain⟨q,k,h1,rfl⟩:=Q2V h
 rw[List.getElem?_set]
 split
 ·rename_i e
  subst e
  rw[h1,if_pos (List.getElem?_eq_some_iff.1 h1).1]
  exact congrArg some (OT _ _ _)
 ·rfl
theorem Q4I{M M':List Mg}{w:Wish}{W:List Wish}(h:JM M w=some M')(hW:WOk M W):WOk M' W:=fun x hx=>by
 obtain⟨q,h1,h2⟩:=hW x hx
 have h3:=Q1L h x.msg
 rw[h1]at h3
 cases h4:M'[x.msg]? with
 | none=>rw[h4]at h3;cases h3
 | some q'=>
  rw[h4]at h3
  have h5:q'.fields.map (·.number)=q.fields.map (·.number):=Option.some.inj h3
  exact⟨q',rfl,by rw[h5];exact h2⟩
theorem Q3J{M M':List Mg}{w:Wish}(h:JM M w=some M')(hF:∀ q∈M,q.fields.length<=40):∀ q∈M',q.fields.length<=40:=fun q hq=>by
 obtain⟨i,hi⟩:=List.mem_iff_getElem?.1 hq
 have h3:=Q1L h i
 rw[hi]at h3
 cases h4:M[i]? with
 | none=>rw[h4]at h3;cases h3
 | some q'=>
  rw[h4]at h3
  have:=congrArg List.length (Option.some.inj h3)
  rw[List.length_map,List.length_map]at this
  rw[this]
  exact hF q' (List.mem_of_getElem? h4)
theorem Q3U{l:List Fd}{n:Int}(h:n∈l.map (·.number)):∃ f,(l.find? fun f=>decide (f.number=n))=some f:=by
 cases hf:l.find? fun f=>decide (f.number=n)with
 | some f=>exact⟨f,rfl⟩
 | none=>
  obtain⟨f,h1,h2⟩:=List.mem_map.1 h
  have:=List.find?_eq_none.1 hf f h1
  simp[h2]at this
def Q75(s:Cst):Except Flt (List Mg)->Except Flt (List Mg×List En)
 | .error x=>.error x
 | .ok A=>.ok (A,s.enums)
def VX(L:List Ty)(f:Fil):Except Flt (List Mg×List En):=match J5 (BJ L) (DG f.package) f.enums f.msgs ⟨[],[],[]⟩with | .error x=>.error x | .ok s=>Q75 s (JY s.msgs s.later)
theorem QY(f:Fil):PB f=match EX f with | .error (k,l,c)=>.error (if k=1 then 11 else 3,l,c) | .ok L=>VX L f:=by
 unfold PB VX
 cases EX f with
 | error x=>rfl
 | ok L=>
  dsimp only
  cases J5 (BJ L) (DG f.package) f.enums f.msgs ⟨[],[],[]⟩with
  | error x=>rfl
  | ok s=>
   dsimp only
   cases JY s.msgs s.later<;>rfl
def RuY(er:Nat->Er)(g:Nat)(L:List Ty)(nm ne:List (List UInt8))(r:Except Flt (List Mg×List En))(y:IV)(B1:BL)(R1:RL)(p1:List (Nat×Value)):Prop:=
 B1=coB L nm ne/\p1=[]/\((∃ A E W,r=.ok (mgs A,E)/\y=.part IS/\R1=coR (pcV g) A E W) \/ ∃ n l c A E W,r=.error (n,l,c)/\y=.part (.one (sfD l c (er n)))/\R1=coR (pcV g) A E W)
theorem RuY.tidy{er:Nat->Er}{g:Nat}{L:List Ty}{nm ne:List (List UInt8)}{r:Except Flt (List Mg×List En)}{pc:Value}{A:List MgV}{E:List En}{W:List Wish}(y:IV)(B1:BL)(R1:RL)(p1:List (Nat×Value))(h:RuY er g L nm ne r y B1 R1 p1):NU (coB L nm ne) (coR pc A E W) y B1 R1 p1:=by
 obtain⟨rfl,rfl,⟨A',E',W',_,rfl,rfl⟩ | ⟨n,l,c,A',E',W',_,rfl,rfl⟩⟩:=h<;>exact⟨⟨rfl,rfl,rfl,rfl⟩,fun x hx=>(by cases hx)⟩
theorem RS(M:List Mg)(w:Wish)(ws:List Wish):JY M (w::ws)=match JM M w with | none=>.error (10,w.fld.line,w.fld.col) | some A'=>JY A' ws:=rfl
set_option maxHeartbeats 8000000 in
theorem Q7I(er:Nat->Er)(g:Nat)(N:Nat)(hN:N<=1000000)(f:Fil)(hf:FOk N f)(hg:f.gd)(L:List Ty)(hT:EX f=.ok L):
  EGp Tryz.prog (gC er) 27 [.box 1000 0,.part (FQ f)] (coB L (CA false L) (CA true L)) (coR (pcV g) [] [] []) [] (At g) (RuY er g L (CA false L) (CA true L) (VX L f)):=by
 have tb0:GC []:=⟨List.nodup_nil,by simp⟩
 have hL:GC L:=F1 tb0 hT
 have hnmL:(CA false L).length<=40:=Nat.le_trans (WB false L) hL.2
 have hneL:(CA true L).length<=40:=Nat.le_trans (WB true L) hL.2
 have hn1:CA false L=CA false (E1 (DG f.package) f.enums f.msgs)++[]:=by rw[List.append_nil];exact II false hT
 have hn2:CA true L=CA true (E1 (DG f.package) f.enums f.msgs)++[]:=by rw[List.append_nil];exact II true hT
 have hah:(DG f.package).length+(8+1)*(N+2)<=100000000:=by
  have:=hg.pk
  unfold DG
  split
  ·simp;omega
  ·simp;omega
 refine GY 36 Tryz.func27 rfl rfl rfl fun w D bor mb hpre=>?_
 try refine A0 ?_
 obtain rfl:mb 1000=g:=hpre
 refine A8 ?_
 refine DZ 3 rfl rfl rfl rfl (kn rfl) rfl rfl rfl rfl ?_
 refine AG ?_
 refine A6 ?_
 try refine A0 ?_
 refine A8 ?_
 refine AB (A3 rfl (kn rfl) off_42_2) ?_
 refine AB (A4 rfl (kn rfl) rfl rfl one_40) ?_
 refine AB (A3 rfl (kn rfl) off_42_1) ?_
 refine AB (A4 rfl (kn rfl) rfl rfl one_39) ?_
 refine AJ ?_
 refine AB (HM (fs:=[.box 1000 0]) (cs:=[]) rfl ⟨(kn rfl),trivial⟩ trivial) ?_
 refine AJ ?_
 refine AB (HM (fs:=[.box 1000 0]) (cs:=[]) rfl ⟨(kn rfl),trivial⟩ trivial) ?_
 refine Q2 rfl rfl rfl rfl (by kernel_rfl) (ys:=KP f.enums f.msgs) (KnX.all ⟨kn rfl,kn rfl,kn rfl,kn rfl,trivial⟩) (Q4S er (mb 1000) L hL (CA false L) (CA true L) (by omega) (by omega) N hN 8 (DG f.package) f.enums f.msgs [] ⟨[],[],[]⟩ [] [] hah hf.fine.2.1 hf.fine.1 (fun x hx=>⟨hf.en x hx,hf.fine.2.2.1 x hx,hg.en x hx⟩) (fun k hk=>⟨hf.ms k hk,hf.fine.2.2.2 k hk,hg.ms k hk⟩) rfl hn1 hn2 ⟨by simp,fun w hw=>(by cases hw),fun q hq=>(by cases hq),Nat.zero_le _⟩) ⟨rfl,trivial⟩ ⟨rfl,rfl,rfl,trivial⟩ (fun M h=>h 1000 (.head _)) trivial WaY.tidy ?_
 rintro _ _ _ _ ⟨⟨rfl,rfl,(⟨s,A,hr,rfl,hA,rfl⟩ | ⟨n,li,co,A,E',W',hr,rfl,rfl⟩)⟩,hx⟩
 ·have hrun:VX L f=Q75 s (JY s.msgs s.later):=by unfold VX;rw[hr]
  obtain⟨w1,w2,w3,w4,w5,w6⟩:=hx s hr
  have hAl:A.length<=1000:=by
   have h2:A.length=s.msgs.length:=by rw[<- hA,List.length_map]
   omega
  have hll:s.later.length<=100000:=by omega
  rw[hrun]
  refine AG ?_
  refine A6 ?_
  try refine A0 ?_
  refine A1 (AA rfl rfl rfl rfl rfl (A5 rfl rfl rfl (AQ rfl (kn rfl) ifc_28) .nil)) ?_
  try refine A0 ?_
  refine C1 ?_
  try refine A0 ?_
  refine A1 (AA rfl rfl rfl rfl rfl (A5 rfl rfl rfl (AL rfl (kn rfl)) (A5 rfl rfl rfl (A3 rfl (kn rfl) off_95_4) (A5 rfl rfl rfl (A4 rfl (kn rfl) rfl rfl one_93) (A5 rfl rfl rfl (GX rfl (kn rfl) rfl sle_93) (AA rfl rfl rfl rfl rfl .nil)))))) ?_
  try refine A0 ?_
  refine S1 10003 1003 rfl rfl fun v3 hv3=>?_
  refine MR (t:=24) (s:=10003) rfl rfl ?_
  refine CB (ι:={ i:Nat×List MgV // i.1<=s.later.length/\i.2.length<=1000/\WOk (mgs i.2) s.later/\(∀ q∈mgs i.2,q.fields.length<=40)/\JY s.msgs s.later=JY (mgs i.2) (s.later.drop i.1) })
   (fun i=>[(0,.box 1000 0),(24,.is v3),(25,.is (.int .i64 (s.later.length:Int))),(26,.is (.int .i64 (i.1.1:Int))),(10003,LQ 1003 v3)])
   (fun _=>coB L (CA false L) (CA true L)) (fun i=>coR (pcV (mb 1000)) i.1.2 s.enums s.later) (fun i=>s.later.length-i.1.1)
   ⟨(0,A),by dsimp only;omega,hAl,by show WOk (A.map (·.1)) s.later;rw[hA];exact w4,by show ∀ q∈A.map (·.1),_;rw[hA];exact w5,by show _=JY (A.map (·.1)) _;rw[hA];rfl⟩
   (fun K=>B8 ⟨s_t,s_t,s_t,s_t,s_t,trivial⟩ ⟨s_b,trivial⟩ ⟨rfl,rfl,rfl,trivial⟩) ?_
  clear hx w1 w2 w3 w4 w5 w6 hAl hA hr hrun A
  rintro⟨⟨i,A⟩,hi,hAl,hW,hF,hinv⟩
  dsimp only at hi hAl hW hF hinv ⊢
  try refine A0 ?_
  refine A1 (A5 rfl rfl rfl (AN rfl (kn rfl) (kn rfl) CP) .nil) ?_
  try refine A0 ?_
  refine AO rfl (fun h=>?_) (fun h=>?_)
  ·have hil:i<s.later.length:=by have:=of_decide_eq_true h;omega
   obtain⟨w,hw⟩:∃ w,s.later[i]?=some w:=⟨_,List.getElem?_eq_getElem hil⟩
   obtain⟨q,hq,hnum⟩:=hW w (List.mem_of_getElem? hw)
   obtain⟨⟨q0,v⟩,hqv,rfl⟩:∃ p:MgV,A[w.msg]?=some p/\p.1=q:=by
    have h1:(A.map (·.1))[w.msg]?=some q:=hq
    rw[List.getElem?_map]at h1
    cases h2:A[w.msg]? with
    | none=>rw[h2]at h1;cases h1
    | some p=>rw[h2]at h1;exact⟨p,rfl,Option.some.inj h1⟩
   obtain⟨fd,hfd⟩:=Q3U hnum
   have hwi:(s.later.flatMap (wiD (pcV (mb 1000))))[i*1]?=some (.fn 88 [.ptr 88 [.cell (pcV (mb 1000))],.ptr 3 [.cell (.int .i64 (w.msg:Int))],.ptr 210 w.fld.dats]):=by
    have h1:=KW (Q6s (pcV (mb 1000))) hw (show 0<1 by omega)
    rw[Nat.add_zero]at h1
    rw[h1]
    rfl
   have hFA:∀ p∈A,p.1.fields.length<=100000:=fun p hp=>by
    have:=hF p.1 (List.mem_map.2 ⟨p,hp,rfl⟩)
    omega
   rw[G8 hw,RS]at hinv
   try refine A0 ?_
   refine Q5H (t:=24) (s:=10003) rfl rfl ?_
   refine A1 (A5 rfl rfl rfl (M7 (z:=(i:Int)) rfl (kn rfl) rfl (kn rfl) (by omega) sle_93 esz_93) (A5 rfl rfl rfl (P6 rfl (kn rfl) rfl hwi one_142) (AE rfl rfl rfl rfl rfl .nil))) ?_
   try refine A0 ?_
   refine MR (t:=24) (s:=10003) rfl rfl ?_
   refine A8 ?_
   refine AJ ?_
   refine Q3Y rfl rfl rfl rfl (by kernel_rfl) (kn rfl) (zs:=[]) (KnX.all trivial) rfl (Q7M er (mb 1000) L (CA false L) (CA true L) A s.enums s.later v3 hAl hFA w.msg q0 v hqv w.fld fd hfd) ⟨rfl,trivial⟩ ⟨rfl,rfl,rfl,trivial⟩ (fun M h=>h 1000 (.head _)) ⟨rfl,trivial⟩ KY.tidy ?_
   rintro _ _ _ _ ⟨rfl,rfl,(⟨A',hr,hl,rfl,rfl⟩ | ⟨hr,rfl,rfl⟩)⟩
   ·have hr':JM (mgs A) w=some (mgs A'):=hr
    rw[hr']at hinv
    refine AG ?_
    refine A6 ?_
    try refine A0 ?_
    refine A1 (AA rfl rfl rfl rfl rfl (A5 rfl rfl rfl (AQ rfl (kn rfl) ifc_28) .nil)) ?_
    try refine A0 ?_
    refine C1 ?_
    try refine A0 ?_
    refine A1 (A5 rfl rfl rfl (AN rfl (kn rfl) (kn rfl) (BF (by first | omega | (dsimp only;omega)))) (AA rfl rfl rfl rfl rfl .nil)) ?_
    try refine A0 ?_
    refine BB ⟨(i+1,A'),by dsimp only;omega,by dsimp only;omega,Q4I hr' hW,Q3J hr' hF,hinv⟩ (by dsimp only;omega) (fun K=>B8 ⟨s_t,s_t,s_t,s_t,s_t,trivial⟩ ⟨s_b,trivial⟩ ⟨rfl,rfl,rfl,trivial⟩)
   ·have hr':JM (mgs A) w=none:=hr
    rw[hr']at hinv
    rw[hinv]
    refine AG ?_
    refine A6 ?_
    try refine A0 ?_
    refine A1 (AA rfl rfl rfl rfl rfl (A5 rfl rfl rfl (AP rfl (kn rfl) rfl ifc_28) .nil)) ?_
    try refine A0 ?_
    refine BD ?_
    try refine A0 ?_
    refine A1 (AA rfl rfl rfl rfl rfl (AE rfl rfl rfl rfl rfl .nil)) ?_
    try refine A0 ?_
    exact BS (coB L (CA false L) (CA true L)) (coR (pcV (mb 1000)) A s.enums s.later) ([]) rfl (.tmp (kn rfl) (.nil)) (Imp.refl _) ⟨s_b,trivial⟩ ⟨rfl,rfl,rfl,trivial⟩ trivial (⟨rfl,rfl,.inr ⟨10,w.fld.line,w.fld.col,A,s.enums,s.later,rfl,rfl,rfl⟩⟩)
  obtain rfl:i=s.later.length:=by have:=of_decide_eq_false h;omega
  rw[List.drop_length]at hinv
  rw[hinv]
  try refine A0 ?_
  refine A1 (AE rfl rfl rfl rfl rfl .nil) ?_
  try refine A0 ?_
  exact BS (coB L (CA false L) (CA true L)) (coR (pcV (mb 1000)) A s.enums s.later) ([]) rfl (.tmp (kn rfl) (.nil)) (Imp.refl _) ⟨s_b,trivial⟩ ⟨rfl,rfl,rfl,trivial⟩ trivial (⟨rfl,rfl,.inl ⟨A,s.enums,s.later,rfl,rfl,rfl⟩⟩)
 ·have hrun:VX L f=.error (n,li,co):=by unfold VX;rw[hr]
  rw[hrun]
  refine AG ?_
  refine A6 ?_
  try refine A0 ?_
  refine A1 (AA rfl rfl rfl rfl rfl (A5 rfl rfl rfl (AP rfl (kn rfl) rfl ifc_28) .nil)) ?_
  try refine A0 ?_
  refine BD ?_
  try refine A0 ?_
  refine A1 (AA rfl rfl rfl rfl rfl (AE rfl rfl rfl rfl rfl .nil)) ?_
  try refine A0 ?_
  exact BS (coB L (CA false L) (CA true L)) (coR (pcV (mb 1000)) A E' W') ([]) rfl (.tmp (kn rfl) (.nil)) (Imp.refl _) ⟨s_b,trivial⟩ ⟨rfl,rfl,rfl,trivial⟩ trivial (⟨rfl,rfl,.inr ⟨n,li,co,A,E',W',rfl,rfl,rfl⟩⟩)
theorem Q7P(er:Nat->Er):∀ x,x∈gS (er 11) (er 3)->x∈gC er:=fun x hx=>by
 rcases List.mem_cons.1 hx with rfl | hx
 ·exact Q6z er
 ·obtain rfl:=List.mem_singleton.1 hx
  exact gc3 er
theorem Q5u(er:Nat->Er)(k:Nat):Q36 (er 11) (er 3) k=er (if k=1 then 11 else 3):=by
 unfold Q36
 split<;>rfl
theorem Q1T(er:Nat->Er)(N:Nat)(hN:N<=1000000)(f:Fil)(hf:FOk N f){r:Except (Nat×Int×Int) (List Ty)}(h:EX f=r):EF Tryz.prog (gC er) 48 [FQ f] (ofR (er 11) (er 3) r):=h▸EFx.more (Q7k (er 11) (er 3) N hN f hf) (Q7P er)
abbrev ncD(L:List Ty):List Dat:=[Q3K L,.row 1 (CA false L).length ((CA false L).flatMap textDats),.row 1 (CA true L).length ((CA true L).flatMap textDats),.cell (.slice none 0 0),.cell (.slice none 0 0),.cell (.slice none 0 0)]
theorem Q55(er:Nat->Er)(N:Nat)(hN:N<=1000000)(f:Fil)(hf:FOk N f)(L:List Ty)(hT:EX f=.ok L):EBx Tryz.prog (gC er) 26 [FQ f] 95 (.ok (ncD L)):=by
 have tb0:GC []:=⟨List.nodup_nil,by simp⟩
 have hL:GC L:=F1 tb0 hT
 refine UY 21 Tryz.func26 rfl rfl rfl fun w D=>?_
 try refine A0 ?_
 refine A8 ?_
 refine DZ 1 rfl rfl rfl rfl (kn rfl) rfl rfl rfl rfl ?_
 refine AG ?_
 refine AG ?_
 refine A6 ?_
 try refine A0 ?_
 refine A1 (A5 rfl rfl rfl (AT (ds:=[_,_,_]) 3 rfl (kn rfl) rfl rfl agg_42 sz_42 rfl) (A5 rfl rfl rfl (AY rfl (by kernel_rfl) (Q1T er N hN f hf hT) ⟨(kn rfl),trivial⟩) (AA rfl rfl rfl rfl rfl (A5 rfl rfl rfl (BN rfl (kn rfl) rfl) (A5 rfl rfl rfl (BN rfl (kn rfl) rfl) (AE rfl rfl rfl rfl rfl (AE rfl rfl rfl rfl rfl .nil))))))) ?_
 try refine A0 ?_
 refine A1 (AA rfl rfl rfl rfl rfl (A5 rfl rfl rfl (AQ rfl (kn rfl) ifc_28) .nil)) ?_
 try refine A0 ?_
 refine C1 ?_
 try refine A0 ?_
 refine A8 ?_
 refine AJ ?_
 refine AJ ?_
 refine AB (AY rfl (by kernel_rfl) (Z4 _ L hL) ⟨(kn rfl),trivial⟩) ?_
 refine AJ ?_
 refine AB (AY rfl (by kernel_rfl) (Q4O _ L hL) ⟨(kn rfl),trivial⟩) ?_
 refine AB (B9 (ds:=[_,_,_,_,_,_]) [(0,_),(1,_),(2,_)] rfl ⟨rfl,(kn rfl),⟨rfl,(kn rfl),⟨rfl,(kn rfl),trivial⟩⟩⟩ rfl pl_95 zr_95 (fun w D=>.cons (.cell _) (.cons (.cell _) (.cons (.cell _) (.cons (.cell _) (.cons (.cell _) (.cons (.cell _) (.nil _ _))))))) rfl) ?_
 refine DZ 20 rfl rfl rfl rfl (kn rfl) rfl rfl rfl rfl ?_
 refine AG ?_
 refine AG ?_
 refine A6 ?_
 try refine A0 ?_
 exact ZF rfl rfl rfl rfl rfl rfl rfl
theorem Q4Y(er:Nat->Er)(N:Nat)(hN:N<=1000000)(f:Fil)(hf:FOk N f)(k:Nat)(l c:Int)(hT:EX f=.error (k,l,c)):EBx Tryz.prog (gC er) 26 [FQ f] 95 (.error (sfD l c (Q36 (er 11) (er 3) k))):=by
 refine UY 21 Tryz.func26 rfl rfl rfl fun w D=>?_
 try refine A0 ?_
 refine A8 ?_
 refine DZ 1 rfl rfl rfl rfl (kn rfl) rfl rfl rfl rfl ?_
 refine AG ?_
 refine AG ?_
 refine A6 ?_
 try refine A0 ?_
 refine A1 (A5 rfl rfl rfl (AT (ds:=[_,_,_]) 3 rfl (kn rfl) rfl rfl agg_42 sz_42 rfl) (A5 rfl rfl rfl (AY rfl (by kernel_rfl) (Q1T er N hN f hf hT) ⟨(kn rfl),trivial⟩) (AA rfl rfl rfl rfl rfl (A5 rfl rfl rfl (BN rfl (kn rfl) rfl) (A5 rfl rfl rfl (BN rfl (kn rfl) rfl) (AE rfl rfl rfl rfl rfl (AE rfl rfl rfl rfl rfl .nil))))))) ?_
 try refine A0 ?_
 refine A1 (AA rfl rfl rfl rfl rfl (A5 rfl rfl rfl (AP rfl (kn rfl) rfl ifc_28) .nil)) ?_
 try refine A0 ?_
 refine BD ?_
 try refine A0 ?_
 refine A1 (AA rfl rfl rfl rfl rfl (AE rfl rfl rfl rfl rfl (AE rfl rfl rfl rfl rfl .nil))) ?_
 try refine A0 ?_
 exact Z1 rfl rfl rfl rfl
def Q7G(er:Nat->Er):Except Flt (List Mg×List En)->IV
 | .ok p=>.tup [TB p.1 p.2,IS]
 | .error p=>.tup [TB [] [],.one (sfD p.2.1 p.2.2 (er p.1))]
theorem Q4d(A:List MgV):Dat.row 3 A.length ((A.flatMap mgO).map QT)=.row 3 (mgs A).length ((mgs A).flatMap mgD):=by
 rw[UB,List.length_map]
set_option maxHeartbeats 4000000 in
theorem Q0O(er:Nat->Er)(N:Nat)(hN:N<=1000000)(f:Fil)(hf:FOk N f)(hg:f.gd):EF Tryz.prog (gC er) 11 [FQ f] (Q7G er (PB f)):=by
 rw[QY]
 refine AU 27 Tryz.func11 rfl rfl rfl fun w D=>?_
 try refine A0 ?_
 refine A8 ?_
 refine DZ 1 rfl rfl rfl rfl (kn rfl) rfl rfl rfl rfl ?_
 refine AS 2 [.is (.slice none 0 0),.is (.slice none 0 0)] rfl rfl rfl rfl zr_26 (fun w D M V=>⟨rfl,fun j x v h1 h2=>AR _ h1 h2 rfl⟩) rfl rfl rfl rfl ?_
 refine AG ?_
 refine A6 ?_
 try refine A0 ?_
 refine A8 ?_
 refine AB (AT (ds:=[_,_,_]) 3 rfl (kn rfl) rfl rfl agg_42 sz_42 rfl) ?_
 cases hT:EX f with
 | error x=>
  obtain⟨k,l,c⟩:=x
  refine SX (ps:=[FQ f]) 1000 rfl rfl rfl rfl (by kernel_rfl) ⟨kn rfl,trivial⟩ (Q4Y er N hN f hf k l c hT) rfl rfl rfl rfl rfl rfl rfl rfl rfl rfl rfl rfl rfl rfl rfl rfl (fun ds h=>by cases h) fun d hd=>?_
  obtain rfl:=Except.error.inj hd
  refine AG ?_
  refine AG ?_
  refine A6 ?_
  try refine A0 ?_
  refine A1 (AA rfl rfl rfl rfl rfl (A5 rfl rfl rfl (AP rfl (kn rfl) rfl ifc_28) .nil)) ?_
  try refine A0 ?_
  refine BD ?_
  try refine A0 ?_
  refine A8 ?_
  refine AB (B9 (ds:=[.row 3 0 [],.row 3 0 []]) [] rfl trivial rfl pl_26 zr_26 (fun w D=>.cons (.none _ _ _) (.cons (.none _ _ _) (.nil _ _))) rfl) ?_
  refine AJ ?_
  refine AI rfl rfl rfl (kn rfl) rfl (kn rfl) rfl rfl sz_26 ?_
  refine AG ?_
  refine A6 ?_
  try refine A0 ?_
  exact AM rfl rfl (.cell rfl rfl rfl agg_26 sz_26 rfl (.tmp (kn rfl) (.nil))) (Imp.of_eq (by rw[Q5u];rfl)) rfl
 | ok L=>
  refine SX (ps:=[FQ f]) 1000 rfl rfl rfl rfl (by kernel_rfl) ⟨kn rfl,trivial⟩ (Q55 er N hN f hf L hT) rfl rfl rfl rfl rfl rfl rfl rfl rfl rfl rfl rfl rfl rfl rfl rfl (fun ds hd=>?_) (fun d h=>by cases h)
  obtain rfl:=Except.ok.inj hd
  dsimp only
  refine AG ?_
  refine AG ?_
  refine A6 ?_
  try refine A0 ?_
  refine A1 (AA rfl rfl rfl rfl rfl (A5 rfl rfl rfl (AQ rfl (kn rfl) ifc_28) .nil)) ?_
  try refine A0 ?_
  refine C1 ?_
  try refine A0 ?_
  refine ZC 1000 3 1001 (2000000+71) 3 rfl rfl rfl rfl rfl ?_
  refine BI 1000 4 1002 74 3 rfl rfl rfl rfl rfl ?_
  refine BI 1000 5 1003 142 1 rfl rfl rfl rfl rfl ?_
  refine A8 ?_
  refine AJ ?_
  refine AB (AT (ds:=[_,_,_]) 3 rfl (kn rfl) rfl rfl agg_42 sz_42 rfl) ?_
  refine Q2 rfl rfl rfl rfl (by kernel_rfl) (ys:=[.box 1000 0,.part (FQ f)]) (R0:=coR (pcV 0) [] [] []) (KnX.all ⟨kn rfl,kn rfl,trivial⟩) (EGp.any fun g=>Q7I er g N hN f hf hg L hT) ⟨rfl,trivial⟩ ⟨rfl,rfl,rfl,trivial⟩ (fun M h=>trivial) trivial (fun y B1 R1 p1 ⟨g,h⟩=>RuY.tidy y B1 R1 p1 h) ?_
  rintro _ _ _ _ ⟨g,rfl,rfl,(⟨A,E,W,hr,rfl,rfl⟩ | ⟨n,li,co,A,E,W,hr,rfl,rfl⟩)⟩
  ·rw[hr]
   refine AG ?_
   refine A6 ?_
   try refine A0 ?_
   refine A1 (AA rfl rfl rfl rfl rfl (A5 rfl rfl rfl (AQ rfl (kn rfl) ifc_28) .nil)) ?_
   try refine A0 ?_
   refine C1 ?_
   try refine A0 ?_
   refine SU 1000 3 1001 rfl rfl rfl rfl (congrArg (fun d=>([.part (.one (Q3K L)),.part (.one (.row 1 (CA false L).length ((CA false L).flatMap textDats))),.part (.one (.row 1 (CA true L).length ((CA true L).flatMap textDats))),.part (.one d),.own 1002,.own 1003]:List IV)) (Q4d A)) ?_
   refine BC 1000 4 1002 rfl rfl rfl rfl rfl ?_
   refine A8 ?_
   refine AJ ?_
   refine AB (AL rfl (kn rfl)) ?_
   refine AB (A3 rfl (kn rfl) off_95_3) ?_
   refine AB (AT (ds:=[_,_]) 2 rfl (kn rfl) rfl rfl agg_26 sz_26 rfl) ?_
   refine AI rfl rfl rfl (kn rfl) rfl (kn rfl) rfl rfl sz_26 ?_
   refine AG ?_
   refine A6 ?_
   try refine A0 ?_
   exact AM rfl rfl (.cell rfl rfl rfl agg_26 sz_26 rfl (.tmp (kn rfl) (.nil))) (Imp.refl _) rfl
  ·rw[hr]
   refine AG ?_
   refine A6 ?_
   try refine A0 ?_
   refine A1 (AA rfl rfl rfl rfl rfl (A5 rfl rfl rfl (AP rfl (kn rfl) rfl ifc_28) .nil)) ?_
   try refine A0 ?_
   refine BD ?_
   try refine A0 ?_
   refine A8 ?_
   refine AB (B9 (ds:=[.row 3 0 [],.row 3 0 []]) [] rfl trivial rfl pl_26 zr_26 (fun w D=>.cons (.none _ _ _) (.cons (.none _ _ _) (.nil _ _))) rfl) ?_
   refine AJ ?_
   refine AI rfl rfl rfl (kn rfl) rfl (kn rfl) rfl rfl sz_26 ?_
   refine AG ?_
   refine A6 ?_
   try refine A0 ?_
   exact AM rfl rfl (.cell rfl rfl rfl agg_26 sz_26 rfl (.tmp (kn rfl) (.nil))) (Imp.refl _) rfl
theorem ZI(er:Nat->Er)(N:Nat)(hN:N<=1000000)(f:Fil)(hf:FOk N f)(hg:f.gd)(s:List UInt8){gls:List (Nat×List Value)}(hs:∀ x,x∈gC er->x∈gls)(h:EF Tryz.prog gls 10 [sP s] (.tup [FQ f,IS])):EF Tryz.prog gls 8 [sP s] (Q7G er (PB f)):=by
 refine AU 19 Tryz.func8 rfl rfl rfl fun w D=>?_
 try refine A0 ?_
 refine A8 ?_
 refine AS 2 [.is (.slice none 0 0),.is (.slice none 0 0)] rfl rfl rfl rfl zr_26 (fun w D M V=>⟨rfl,fun j x v h1 h2=>AR _ h1 h2 rfl⟩) rfl rfl rfl rfl ?_
 refine AG ?_
 refine A6 ?_
 try refine A0 ?_
 refine A8 ?_
 refine AJ ?_
 refine AB (AY rfl (by kernel_rfl) (h) ⟨(kn rfl),trivial⟩) ?_
 refine AJ ?_
 refine B3 ?_
 refine B3 ?_
 refine AS 4 [.is (.string ⟨#[]⟩),.is (.slice none 0 0),.is (.slice none 0 0)] rfl rfl rfl rfl zr_42 (fun w D M V=>⟨rfl,fun j x v h1 h2=>AR _ h1 h2 rfl⟩) rfl rfl rfl rfl ?_
 refine AI rfl rfl rfl (kn rfl) rfl (kn rfl) rfl rfl sz_42 ?_
 refine AG ?_
 refine A6 ?_
 try refine A0 ?_
 refine A1 (AA rfl rfl rfl rfl rfl (A5 rfl rfl rfl (AQ rfl (kn rfl) ifc_28) .nil)) ?_
 try refine A0 ?_
 refine C1 ?_
 try refine A0 ?_
 have hc:=EFx.more (Q0O er N hN f hf hg) hs
 cases hr:PB f with
 | error x=>
  rw[hr]at hc
  refine A8 ?_
  refine AB (AT (ds:=[_,_,_]) 3 rfl (kn rfl) rfl rfl agg_42 sz_42 rfl) ?_
  refine AB (AY rfl (by kernel_rfl) (hc) ⟨(kn rfl),trivial⟩) ?_
  refine B3 ?_
  refine B3 ?_
  refine AI rfl rfl rfl (kn rfl) rfl (kn rfl) rfl rfl sz_26 ?_
  refine AG ?_
  refine A6 ?_
  try refine A0 ?_
  exact AM rfl rfl (.cell rfl rfl rfl agg_26 sz_26 rfl (.tmp (kn rfl) (.nil))) (Imp.refl _) rfl
 | ok p=>
  rw[hr]at hc
  refine A8 ?_
  refine AB (AT (ds:=[_,_,_]) 3 rfl (kn rfl) rfl rfl agg_42 sz_42 rfl) ?_
  refine AB (AY rfl (by kernel_rfl) (hc) ⟨(kn rfl),trivial⟩) ?_
  refine B3 ?_
  refine B3 ?_
  refine AI rfl rfl rfl (kn rfl) rfl (kn rfl) rfl rfl sz_26 ?_
  refine AG ?_
  refine A6 ?_
  try refine A0 ?_
  exact AM rfl rfl (.cell rfl rfl rfl agg_26 sz_26 rfl (.tmp (kn rfl) (.nil))) (Imp.refl _) rfl
theorem Q2e(f:Fil)(l c:Int)(e:Er)(s:List UInt8){gls:List (Nat×List Value)}(h:EF Tryz.prog gls 10 [sP s] (.tup [FQ f,.one (sfD l c e)])):EF Tryz.prog gls 8 [sP s] (.tup [TB [] [],.one (sfD l c e)]):=by
 refine AU 19 Tryz.func8 rfl rfl rfl fun w D=>?_
 try refine A0 ?_
 refine A8 ?_
 refine AS 2 [.is (.slice none 0 0),.is (.slice none 0 0)] rfl rfl rfl rfl zr_26 (fun w D M V=>⟨rfl,fun j x v h1 h2=>AR _ h1 h2 rfl⟩) rfl rfl rfl rfl ?_
 refine AG ?_
 refine A6 ?_
 try refine A0 ?_
 refine A8 ?_
 refine AJ ?_
 refine AB (AY rfl (by kernel_rfl) (h) ⟨(kn rfl),trivial⟩) ?_
 refine AJ ?_
 refine B3 ?_
 refine B3 ?_
 refine AS 4 [.is (.string ⟨#[]⟩),.is (.slice none 0 0),.is (.slice none 0 0)] rfl rfl rfl rfl zr_42 (fun w D M V=>⟨rfl,fun j x v h1 h2=>AR _ h1 h2 rfl⟩) rfl rfl rfl rfl ?_
 refine AI rfl rfl rfl (kn rfl) rfl (kn rfl) rfl rfl sz_42 ?_
 refine AG ?_
 refine A6 ?_
 try refine A0 ?_
 refine A1 (AA rfl rfl rfl rfl rfl (A5 rfl rfl rfl (AP rfl (kn rfl) rfl ifc_28) .nil)) ?_
 try refine A0 ?_
 refine BD ?_
 try refine A0 ?_
 refine A8 ?_
 refine AB (B9 (ds:=[.row 3 0 [],.row 3 0 []]) [] rfl trivial rfl pl_26 zr_26 (fun w D=>.cons (.none _ _ _) (.cons (.none _ _ _) (.nil _ _))) rfl) ?_
 refine AJ ?_
 refine AI rfl rfl rfl (kn rfl) rfl (kn rfl) rfl rfl sz_26 ?_
 refine AG ?_
 refine A6 ?_
 try refine A0 ?_
 exact AM rfl rfl (.cell rfl rfl rfl agg_26 sz_26 rfl (.tmp (kn rfl) (.nil))) (Imp.refl _) rfl
theorem OW(a:List UInt8):∀ l k:List Msg,tyMs a (l++k)=tyMs a l++tyMs a k
 | [],k=>rfl
 | x::l,k=>by
  rw[List.cons_append,tyMs,tyMs,OW a l k,List.append_assoc]
theorem Q4p(a:List UInt8)(x:Msg):tyMs a [x]=tyM a x:=by
 rw[tyMs,tyMs,List.append_nil]
mutual
theorem tyM_len(a b:List UInt8):∀ x:Msg,(tyM a x).length=(tyM b x).length
 | .mk n f o m e r s l c=>by
  simp only[tyM,List.length_cons,List.length_append,List.length_map]
  rw[tyMs_len (a++n++[46]) (b++n++[46]) m]
theorem tyMs_len(a b:List UInt8):∀ m:List Msg,(tyMs a m).length=(tyMs b m).length
 | []=>rfl
 | x::m=>by
  simp only[tyMs,List.length_append]
  rw[tyM_len a b x,tyMs_len a b m]
end
abbrev Q7T(n l c:Int):Part:=.many [.cell (.int .i64 n),.cell (.int .i64 l),.cell (.int .i64 c)]
section
section
variable{P:Program}{cx:Cx}{T0:TL}{B0:BL}{R0:RL}{ops:Array Oper}{Q:Exit->Act->World->Prop}{deps:List (List Nat)}{es:List (Nat×Nat×IV)}{bs:List (Nat×Nat×Bx)}{rs:List (Nat×Nat×Rw)}
def AllStepsS(P:Program)(cx:Cx)(T0:TL)(B0:BL)(R0:RL)(ops:Array Oper)(Q:Exit->Act->World->Prop)(es:List (Nat×Nat×IV))(bs:List (Nat×Nat×Bx))(rs:List (Nat×Nat×Rw)):List (List Bool×Nat)->Prop
 | []=>True
 | (L,i)::r=>(∀ K,E cx (DQ (L.set i true) [] es++T0) (DQ (L.set i true) [] bs++B0) (DQ (L.set i true) [] rs++R0) K->E cx (DQ L [] es++T0) (DQ L [] bs++B0) (DQ L [] rs++R0) (wpOp P ops Q i K))/\AllStepsS P cx T0 B0 R0 ops Q es bs rs r
theorem AllStepsS.get:∀ {st:List (List Bool×Nat)} (_:AllStepsS P cx T0 B0 R0 ops Q es bs rs st) {L:List Bool} {i:Nat},(L,i)∈st -> ∀ K,E cx (DQ (L.set i true) [] es++T0) (DQ (L.set i true) [] bs++B0) (DQ (L.set i true) [] rs++R0) K->E cx (DQ L [] es++T0) (DQ L [] bs++B0) (DQ L [] rs++R0) (wpOp P ops Q i K)
 | (L',j)::r,h,L,i,hm=>by
  rcases List.mem_cons.1 hm with e | hm
  ·injection e with e1 e2
   subst e1 e2
   exact h.1
  ·exact AllStepsS.get h.2 hm
 | [],_,_,_,hm=>by cases hm
end
end
end Go.Proofs.YtgcphgdkddihcaaGreatDoor
