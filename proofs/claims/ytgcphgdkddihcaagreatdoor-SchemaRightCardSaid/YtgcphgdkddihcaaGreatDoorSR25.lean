/- Part 25. Conditions: as each theorem says. -/
import Derived.Test.YtgcphgdkddihcaaGreatDoorSR24
import Derived.Test.YtgcphgdkddihcaaGreatDoorProg
set_option maxRecDepth 100000
namespace Go.Proofs.YtgcphgdkddihcaaGreatDoor
open Go.RowKit
abbrev mpX:Bx:=⟨320,[.box 3 0]⟩
abbrev rB(l:List Tk)(m:Msg)(q:Nat):BL:=[(4,ptX),(5,mpX),(1,pX l q),(3,pmX m)]
abbrev RE(l:List Tk)(E8 E9:Er)(r:AZ (Msg×Nat))(y:IV)(B1:BL)(R1:RL):Prop:=ME l E8 E9 (rB l) pmR r y B1 R1
theorem RE.tidy{l:List Tk}{E8 E9:Er}{r:AZ (Msg×Nat)}{m:Msg}{q:Nat}(y:IV)(B1:BL)(R1:RL)(h:RE l E8 E9 r y B1 R1):H0 (rB l m q) (pmR m) y B1 R1:=by
 rcases h with⟨a,b,z,x,_,rfl,rfl,rfl⟩ | ⟨x,z,_,rfl,rfl,rfl⟩<;>exact⟨rfl,rfl,rfl,rfl⟩
abbrev Rsv:=List (Int×Int)×List (List UInt8)
theorem PF{m:Msg}{r:AZ (Rsv×Nat)}{e:Nat×Nat}(h:DA m r=.error e):r=.error e:=by
 unfold DA at h
 split at h
 ·cases h
  rfl
 ·cases h
theorem QS{m x:Msg}{r:AZ (Rsv×Nat)}{z:Nat}(h:DA m r=.ok (x,z)):∃ g,r=.ok (g,z)/\x=m.addReserved g:=by
 unfold DA at h
 split at h
 ·cases h
 ·rename_i g q
  injection h with h
  injection h with h1 h2
  subst h1 h2
  exact⟨g,rfl,rfl⟩
theorem Q4G{l:List Tk}{p q:Nat}{g:Rsv}(h:JV l p=.ok (g,q)):p<q/\q<=l.length/\g.1.length<=1/\g.2.length<=1:=by
 unfold JV at h
 split at h
 ·cases h
 ·rename_i t r hr
  have:=RH hr
  injection h with h
  injection h with h1 h2
  subst h1 h2
  exact⟨by omega,by omega,by simp,by simp⟩
theorem Q4Z{l:List Tk}{p q:Nat}{g:Rsv}(h:I9 l p=.ok (g,q)):p<q/\q<=l.length/\g.1.length<=1/\g.2.length<=1:=by
 unfold I9 at h
 split at h
 ·cases h
 ·rename_i t r hr
  have:=O0 hr
  injection h with h
  injection h with h1 h2
  subst h1 h2
  exact⟨by omega,by omega,by simp,by simp⟩
theorem UM{m:Msg}{g:Rsv}{y z:Nat}(h:Small m y)(h1:g.1.length<=1)(h2:g.2.length<=1)(hz:y+1<=z):Small (m.addReserved g) z:=by
 obtain⟨nm,fs,os,ms,es,rs,ns,ln,cl⟩:=m
 obtain⟨a1,a2,a3,a4,a5,a6⟩:=h
 simp only[Msg.fields,Msg.oneofs,Msg.msgs,Msg.enums,Msg.reserved,Msg.names]at a1 a2 a3 a4 a5 a6
 refine⟨?_,?_,?_,?_,?_,?_⟩<;>simp only[Msg.addReserved,Msg.fields,Msg.oneofs,Msg.msgs,Msg.enums,Msg.reserved,Msg.names,List.length_append]<;>omega
def I7(l:List Tk)(part:Nat->AZ (Rsv×Nat)):Nat->Msg->Nat->AZ (Msg×Nat)
 | 0,_,p=>D1 p
 | n+1,m,p=>
  match part p with
  | .error e=>.error e
  | .ok (g,q)=>
   if tkIs l q 4 [44]then I7 l part n (m.addReserved g) (q+1)
   else
    match BK l 4 [59] q with
    | .error e=>.error e
    | .ok r=>.ok (m.addReserved g,r)
theorem SL(m:Msg)(a b:Rsv):(m.addReserved a).addReserved b=m.addReserved (a.1++b.1,a.2++b.2):=by
 obtain⟨nm,fs,os,ms,es,rs,ns,ln,cl⟩:=m
 simp[Msg.addReserved,List.append_assoc]
theorem RU(m:Msg):m.addReserved ([],[])=m:=by
 obtain⟨nm,fs,os,ms,es,rs,ns,ln,cl⟩:=m
 simp[Msg.addReserved]
theorem SQ(l:List Tk)(m:Msg):∀ (n:Nat) (ts:List (List UInt8)) (p:Nat),(match GJ l n ts p with | .error e=>(.error e:AZ (Msg×Nat)) | .ok (us,q)=>.ok (m.addReserved ([],us),q))=I7 l (JV l) n (m.addReserved ([],ts)) p
 | 0,_,_=>rfl
 | n+1,ts,p=>by
  rw[GJ,I7,JV]
  cases I1 l p with
  | error e=>rfl
  | ok x=>
   obtain⟨x,q⟩:=x
   dsimp only
   rw[SL]
   by_cases hc:tkIs l q 4 [44]=true
   ·rw[if_pos hc,if_pos hc]
    exact SQ l m n (ts++[x]) (q+1)
   ·rw[if_neg hc,if_neg hc]
    cases BK l 4 [59] q<;>rfl
theorem OY(l:List Tk)(m:Msg):∀ (n:Nat) (ts:List (Int×Int)) (p:Nat),(match F0 l n ts p with | .error e=>(.error e:AZ (Msg×Nat)) | .ok (us,q)=>.ok (m.addReserved (us,[]),q))=I7 l (I9 l) n (m.addReserved (ts,[])) p
 | 0,_,_=>rfl
 | n+1,ts,p=>by
  rw[F0,I7,I9]
  cases H7 l p with
  | error e=>rfl
  | ok x=>
   obtain⟨x,q⟩:=x
   dsimp only
   rw[SL]
   by_cases hc:tkIs l q 4 [44]=true
   ·rw[if_pos hc,if_pos hc]
    exact OY l m n (ts++[x]) (q+1)
   ·rw[if_neg hc,if_neg hc]
    cases BK l 4 [59] q<;>rfl
theorem G7(l:List Tk)(m:Msg)(p:Nat):DA m (DJ l p)=if LP l p then I7 l (JV l) (l.length+1) m p else I7 l (I9 l) (l.length+1) m p:=by
 unfold DJ
 split
 ·have:=SQ l m (l.length+1) [] p
  rw[RU]at this
  rw[<- this]
  cases GJ l (l.length+1) [] p<;>rfl
 ·have:=OY l m (l.length+1) [] p
  rw[RU]at this
  rw[<- this]
  cases F0 l (l.length+1) [] p<;>rfl
abbrev Q6J:IV:=.clo (.func 229) [] [.box 4 0,.box 5 0]
theorem Q6o(E8 E9:Er)(l:List Tk)(hl:PTk l)(m:Msg)(hm:Small m 100000000000)(p:Nat)(hp:p<=100000):EG Tryz.prog (gE E8 E9) 229 [.box 4 0,.box 5 0] (rB l m p) (pmR m) (RE l E8 E9 (DA m (JV l p))):=by
 refine B4 6 Tryz.func229 rfl rfl rfl fun w D bor mb=>?_
 try refine A0 ?_
 refine A1 (AE rfl rfl rfl rfl rfl .nil) ?_
 try refine A0 ?_
 refine A8 ?_
 refine AB (A4 rfl (kn rfl) rfl rfl one_183) ?_
 refine AB (A4 rfl (kn rfl) rfl rfl one_320) ?_
 refine AH rfl rfl rfl rfl (by kernel_rfl) (T3 E8 E9 l hl m hm p hp) ⟨rfl,rfl,trivial⟩ ⟨rfl,rfl,rfl,rfl,rfl,rfl,trivial⟩ ⟨(kn rfl),⟨(kn rfl),trivial⟩⟩ (NE.tidy) ?_
 rintro _ _ _ (⟨a,b,z,g,he,rfl,rfl,rfl⟩ | ⟨g,z,ho,rfl,rfl,rfl⟩)
 ·refine AG ?_
  refine A6 ?_
  try refine A0 ?_
  exact A7 (rB l g z) (pmR g) rfl (.tmp (kn rfl) (.nil)) (Imp.refl _) ⟨s_b,s_b,s_b,s_b,trivial⟩ ⟨rfl,rfl,rfl,rfl,rfl,rfl,trivial⟩ (.inl ⟨a,b,z,g,he,rfl,rfl,rfl⟩)
 ·refine AG ?_
  refine A6 ?_
  try refine A0 ?_
  exact A7 (rB l g z) (pmR g) rfl (.tmp (kn rfl) (.nil)) (Imp.refl _) ⟨s_b,s_b,s_b,s_b,trivial⟩ ⟨rfl,rfl,rfl,rfl,rfl,rfl,trivial⟩ (.inr ⟨g,z,ho,rfl,rfl,rfl⟩)
set_option maxHeartbeats 1000000 in
theorem Q6M(E8 E9:Er)(l:List Tk)(hl:PTk l)(m0:Msg)(hm0:Small m0 10000000000)(p:Nat)(hp:p<=100000):EG Tryz.prog (gE E8 E9) 228 [.box 1 0,.part (sP [59]),Q6J] (rB l m0 p) (pmR m0) (RE l E8 E9 (I7 l (JV l) (l.length+1) m0 p)):=by
 refine B4 21 Tryz.func228 rfl rfl rfl fun w D bor mb=>?_
 try refine A0 ?_
 have hll:=hl.len
 obtain⟨rr,hrr⟩:∃ rr,rr=I7 l (JV l) (l.length+1) m0 p:=⟨_,rfl⟩
 rw[<- hrr]
 refine A1 (AE rfl rfl rfl rfl rfl .nil) ?_
 try refine A0 ?_
 refine CB (ι:={ i:Nat×Msg×Nat // 1<=i.1/\l.length+1<=i.1+i.2.2/\i.2.2<=100000/\Small i.2.1 (10000000000+i.2.2)/\rr=I7 l (JV l) i.1 i.2.1 i.2.2 })
  (fun _=>[(0,.box 1 0),(1,.part (sP [59])),(2,Q6J)])
  (fun i=>rB l i.1.2.1 i.1.2.2) (fun i=>pmR i.1.2.1)
  (fun i=>i.1.1) ⟨(l.length+1,m0,p),by omega,by dsimp only;omega,hp,hm0.mono (by omega),hrr⟩
  (fun K=>B8 ⟨s_t,s_t,s_t,trivial⟩ ⟨s_b,s_b,s_b,s_b,trivial⟩ ⟨rfl,rfl,rfl,rfl,rfl,rfl,trivial⟩) ?_
 rintro⟨⟨n,m,q⟩,hn1,hn,hq,hm,hw⟩
 dsimp only at hn1 hn hq hm hw ⊢
 obtain⟨k,rfl⟩:∃ k,n=k+1:=⟨n-1,by omega⟩
 rw[I7]at hw
 try refine A0 ?_
 refine A8 ?_
 refine AJ ?_
 refine F9 (zs:=[]) rfl rfl rfl rfl (by kernel_rfl) (Q6o E8 E9 l hl m (hm.mono (by omega)) q hq) ⟨rfl,rfl,rfl,rfl,trivial⟩ ⟨rfl,rfl,rfl,rfl,rfl,rfl,trivial⟩ (kn rfl) trivial rfl (RE.tidy) ?_
 rintro _ _ _ (⟨a,b,z,g,he,rfl,rfl,rfl⟩ | ⟨m',r,ho,rfl,rfl,rfl⟩)
 ·refine AG ?_
  refine A6 ?_
  try refine A0 ?_
  refine A1 (AA rfl rfl rfl rfl rfl (A5 rfl rfl rfl (AP rfl (kn rfl) rfl ifc_28) .nil)) ?_
  try refine A0 ?_
  refine BD ?_
  try refine A0 ?_
  refine A1 (AA rfl rfl rfl rfl rfl (AE rfl rfl rfl rfl rfl .nil)) ?_
  try refine A0 ?_
  exact A7 (rB l g z) (pmR g) rfl (.tmp (kn rfl) (.nil)) (Imp.refl _) ⟨s_b,s_b,s_b,s_b,trivial⟩ ⟨rfl,rfl,rfl,rfl,rfl,rfl,trivial⟩ (.inl ⟨a,b,z,g,by rw[hw,PF he],rfl,rfl,rfl⟩)
 obtain⟨g,hg,rfl⟩:=QS ho
 obtain⟨hq1,hq2,hg1,hg2⟩:=Q4G hg
 have hm':Small (m.addReserved g) (10000000000+r):=UM hm hg1 hg2 (by omega)
 rw[hg]at hw
 dsimp only at hw
 refine AG ?_
 refine A6 ?_
 try refine A0 ?_
 refine A1 (AA rfl rfl rfl rfl rfl (A5 rfl rfl rfl (AQ rfl (kn rfl) ifc_28) .nil)) ?_
 try refine A0 ?_
 refine C1 ?_
 try refine A0 ?_
 refine A8 ?_
 refine AJ ?_
 refine AB (AC (ds:=[_]) [(0,_)] rfl ⟨rfl,(kn rfl),trivial⟩ rfl sl_54 sz_9 zr_9 (fun w D=>.cons (.cell _) (.nil _ _)) rfl rfl rfl rfl rfl) ?_
 refine AH rfl rfl rfl rfl (by kernel_rfl) (CR _ l hl [44] 4 rfl (by decide) r (by omega)) ⟨rfl,trivial⟩ trivial ⟨(kn rfl),⟨(kn rfl),trivial⟩⟩ (fun _ _ _ h=>PY.tidy h.1 h.2.1 h.2.2) ?_
 rintro _ _ _ ⟨rfl,rfl,rfl⟩
 refine AB (DL rfl (kn rfl)) ?_
 refine A6 ?_
 try refine A0 ?_
 refine AO rfl (fun h=>?_) (fun h=>?_)
 ·have h1:=J0 h
  rw[if_neg (by rw[h1];decide)]at hw
  rw[h1]
  try refine A0 ?_
  refine A8 ?_
  refine AJ ?_
  refine AJ ?_
  refine AB (AC (ds:=[_]) [(0,_)] rfl ⟨rfl,(kn rfl),trivial⟩ rfl sl_54 sz_9 zr_9 (fun w D=>.cons (.cell _) (.nil _ _)) rfl rfl rfl rfl rfl) ?_
  refine AH rfl rfl rfl rfl (by kernel_rfl) (D4 E8 E9 l hl 4 [59] rfl (by decide) r (by omega)) ⟨rfl,trivial⟩ trivial ⟨(kn rfl),⟨(kn rfl),trivial⟩⟩ (PE.tidy) ?_
  rintro _ _ _ (⟨a,b,z,he,rfl,rfl,rfl⟩ | ⟨z,hz,rfl,rfl,rfl⟩)
  ·refine AG ?_
   refine A6 ?_
   try refine A0 ?_
   exact A7 (rB l (m.addReserved g) z) (pmR (m.addReserved g)) rfl (.tmp (kn rfl) (.nil)) (Imp.refl _) ⟨s_b,s_b,s_b,s_b,trivial⟩ ⟨rfl,rfl,rfl,rfl,rfl,rfl,trivial⟩ (.inl ⟨a,b,z,m.addReserved g,by rw[hw,he],rfl,rfl,rfl⟩)
  ·refine AG ?_
   refine A6 ?_
   try refine A0 ?_
   exact A7 (rB l (m.addReserved g) z) (pmR (m.addReserved g)) rfl (.tmp (kn rfl) (.nil)) (Imp.refl _) ⟨s_b,s_b,s_b,s_b,trivial⟩ ⟨rfl,rfl,rfl,rfl,rfl,rfl,trivial⟩ (.inr ⟨m.addReserved g,z,by rw[hw,hz],rfl,rfl,rfl⟩)
 have h1:=IB h
 have hlt:=B7 h1
 rw[if_pos h1]at hw
 rw[h1]
 try refine A0 ?_
 refine BB ⟨(k,m.addReserved g,r+1),by omega,by dsimp only;omega,by dsimp only;omega,hm'.mono (by dsimp only;omega),hw⟩ (by dsimp only;omega) (fun K=>B8 ⟨s_t,s_t,s_t,trivial⟩ ⟨s_b,s_b,s_b,s_b,trivial⟩ ⟨rfl,rfl,rfl,rfl,rfl,rfl,trivial⟩)
abbrev Q6K:IV:=.clo (.func 231) [] [.box 4 0,.box 5 0]
theorem Q6k(E8 E9:Er)(l:List Tk)(hl:PTk l)(m:Msg)(hm:Small m 100000000000)(p:Nat)(hp:p<=100000):EG Tryz.prog (gE E8 E9) 231 [.box 4 0,.box 5 0] (rB l m p) (pmR m) (RE l E8 E9 (DA m (I9 l p))):=by
 refine B4 6 Tryz.func231 rfl rfl rfl fun w D bor mb=>?_
 try refine A0 ?_
 refine A1 (AE rfl rfl rfl rfl rfl .nil) ?_
 try refine A0 ?_
 refine A8 ?_
 refine AB (A4 rfl (kn rfl) rfl rfl one_183) ?_
 refine AB (A4 rfl (kn rfl) rfl rfl one_320) ?_
 refine AH rfl rfl rfl rfl (by kernel_rfl) (PR E8 E9 l hl m hm p hp) ⟨rfl,rfl,trivial⟩ ⟨rfl,rfl,rfl,rfl,rfl,rfl,trivial⟩ ⟨(kn rfl),⟨(kn rfl),trivial⟩⟩ (NE.tidy) ?_
 rintro _ _ _ (⟨a,b,z,g,he,rfl,rfl,rfl⟩ | ⟨g,z,ho,rfl,rfl,rfl⟩)
 ·refine AG ?_
  refine A6 ?_
  try refine A0 ?_
  exact A7 (rB l g z) (pmR g) rfl (.tmp (kn rfl) (.nil)) (Imp.refl _) ⟨s_b,s_b,s_b,s_b,trivial⟩ ⟨rfl,rfl,rfl,rfl,rfl,rfl,trivial⟩ (.inl ⟨a,b,z,g,he,rfl,rfl,rfl⟩)
 ·refine AG ?_
  refine A6 ?_
  try refine A0 ?_
  exact A7 (rB l g z) (pmR g) rfl (.tmp (kn rfl) (.nil)) (Imp.refl _) ⟨s_b,s_b,s_b,s_b,trivial⟩ ⟨rfl,rfl,rfl,rfl,rfl,rfl,trivial⟩ (.inr ⟨g,z,ho,rfl,rfl,rfl⟩)
set_option maxHeartbeats 1000000 in
theorem Q7j(E8 E9:Er)(l:List Tk)(hl:PTk l)(m0:Msg)(hm0:Small m0 10000000000)(p:Nat)(hp:p<=100000):EG Tryz.prog (gE E8 E9) 228 [.box 1 0,.part (sP [59]),Q6K] (rB l m0 p) (pmR m0) (RE l E8 E9 (I7 l (I9 l) (l.length+1) m0 p)):=by
 refine B4 21 Tryz.func228 rfl rfl rfl fun w D bor mb=>?_
 try refine A0 ?_
 have hll:=hl.len
 obtain⟨rr,hrr⟩:∃ rr,rr=I7 l (I9 l) (l.length+1) m0 p:=⟨_,rfl⟩
 rw[<- hrr]
 refine A1 (AE rfl rfl rfl rfl rfl .nil) ?_
 try refine A0 ?_
 refine CB (ι:={ i:Nat×Msg×Nat // 1<=i.1/\l.length+1<=i.1+i.2.2/\i.2.2<=100000/\Small i.2.1 (10000000000+i.2.2)/\rr=I7 l (I9 l) i.1 i.2.1 i.2.2 })
  (fun _=>[(0,.box 1 0),(1,.part (sP [59])),(2,Q6K)])
  (fun i=>rB l i.1.2.1 i.1.2.2) (fun i=>pmR i.1.2.1)
  (fun i=>i.1.1) ⟨(l.length+1,m0,p),by omega,by dsimp only;omega,hp,hm0.mono (by omega),hrr⟩
  (fun K=>B8 ⟨s_t,s_t,s_t,trivial⟩ ⟨s_b,s_b,s_b,s_b,trivial⟩ ⟨rfl,rfl,rfl,rfl,rfl,rfl,trivial⟩) ?_
 rintro⟨⟨n,m,q⟩,hn1,hn,hq,hm,hw⟩
 dsimp only at hn1 hn hq hm hw ⊢
 obtain⟨k,rfl⟩:∃ k,n=k+1:=⟨n-1,by omega⟩
 rw[I7]at hw
 try refine A0 ?_
 refine A8 ?_
 refine AJ ?_
 refine F9 (zs:=[]) rfl rfl rfl rfl (by kernel_rfl) (Q6k E8 E9 l hl m (hm.mono (by omega)) q hq) ⟨rfl,rfl,rfl,rfl,trivial⟩ ⟨rfl,rfl,rfl,rfl,rfl,rfl,trivial⟩ (kn rfl) trivial rfl (RE.tidy) ?_
 rintro _ _ _ (⟨a,b,z,g,he,rfl,rfl,rfl⟩ | ⟨m',r,ho,rfl,rfl,rfl⟩)
 ·refine AG ?_
  refine A6 ?_
  try refine A0 ?_
  refine A1 (AA rfl rfl rfl rfl rfl (A5 rfl rfl rfl (AP rfl (kn rfl) rfl ifc_28) .nil)) ?_
  try refine A0 ?_
  refine BD ?_
  try refine A0 ?_
  refine A1 (AA rfl rfl rfl rfl rfl (AE rfl rfl rfl rfl rfl .nil)) ?_
  try refine A0 ?_
  exact A7 (rB l g z) (pmR g) rfl (.tmp (kn rfl) (.nil)) (Imp.refl _) ⟨s_b,s_b,s_b,s_b,trivial⟩ ⟨rfl,rfl,rfl,rfl,rfl,rfl,trivial⟩ (.inl ⟨a,b,z,g,by rw[hw,PF he],rfl,rfl,rfl⟩)
 obtain⟨g,hg,rfl⟩:=QS ho
 obtain⟨hq1,hq2,hg1,hg2⟩:=Q4Z hg
 have hm':Small (m.addReserved g) (10000000000+r):=UM hm hg1 hg2 (by omega)
 rw[hg]at hw
 dsimp only at hw
 refine AG ?_
 refine A6 ?_
 try refine A0 ?_
 refine A1 (AA rfl rfl rfl rfl rfl (A5 rfl rfl rfl (AQ rfl (kn rfl) ifc_28) .nil)) ?_
 try refine A0 ?_
 refine C1 ?_
 try refine A0 ?_
 refine A8 ?_
 refine AJ ?_
 refine AB (AC (ds:=[_]) [(0,_)] rfl ⟨rfl,(kn rfl),trivial⟩ rfl sl_54 sz_9 zr_9 (fun w D=>.cons (.cell _) (.nil _ _)) rfl rfl rfl rfl rfl) ?_
 refine AH rfl rfl rfl rfl (by kernel_rfl) (CR _ l hl [44] 4 rfl (by decide) r (by omega)) ⟨rfl,trivial⟩ trivial ⟨(kn rfl),⟨(kn rfl),trivial⟩⟩ (fun _ _ _ h=>PY.tidy h.1 h.2.1 h.2.2) ?_
 rintro _ _ _ ⟨rfl,rfl,rfl⟩
 refine AB (DL rfl (kn rfl)) ?_
 refine A6 ?_
 try refine A0 ?_
 refine AO rfl (fun h=>?_) (fun h=>?_)
 ·have h1:=J0 h
  rw[if_neg (by rw[h1];decide)]at hw
  rw[h1]
  try refine A0 ?_
  refine A8 ?_
  refine AJ ?_
  refine AJ ?_
  refine AB (AC (ds:=[_]) [(0,_)] rfl ⟨rfl,(kn rfl),trivial⟩ rfl sl_54 sz_9 zr_9 (fun w D=>.cons (.cell _) (.nil _ _)) rfl rfl rfl rfl rfl) ?_
  refine AH rfl rfl rfl rfl (by kernel_rfl) (D4 E8 E9 l hl 4 [59] rfl (by decide) r (by omega)) ⟨rfl,trivial⟩ trivial ⟨(kn rfl),⟨(kn rfl),trivial⟩⟩ (PE.tidy) ?_
  rintro _ _ _ (⟨a,b,z,he,rfl,rfl,rfl⟩ | ⟨z,hz,rfl,rfl,rfl⟩)
  ·refine AG ?_
   refine A6 ?_
   try refine A0 ?_
   exact A7 (rB l (m.addReserved g) z) (pmR (m.addReserved g)) rfl (.tmp (kn rfl) (.nil)) (Imp.refl _) ⟨s_b,s_b,s_b,s_b,trivial⟩ ⟨rfl,rfl,rfl,rfl,rfl,rfl,trivial⟩ (.inl ⟨a,b,z,m.addReserved g,by rw[hw,he],rfl,rfl,rfl⟩)
  ·refine AG ?_
   refine A6 ?_
   try refine A0 ?_
   exact A7 (rB l (m.addReserved g) z) (pmR (m.addReserved g)) rfl (.tmp (kn rfl) (.nil)) (Imp.refl _) ⟨s_b,s_b,s_b,s_b,trivial⟩ ⟨rfl,rfl,rfl,rfl,rfl,rfl,trivial⟩ (.inr ⟨m.addReserved g,z,by rw[hw,hz],rfl,rfl,rfl⟩)
 have h1:=IB h
 have hlt:=B7 h1
 rw[if_pos h1]at hw
 rw[h1]
 try refine A0 ?_
 refine BB ⟨(k,m.addReserved g,r+1),by omega,by dsimp only;omega,by dsimp only;omega,hm'.mono (by dsimp only;omega),hw⟩ (by dsimp only;omega) (fun K=>B8 ⟨s_t,s_t,s_t,trivial⟩ ⟨s_b,s_b,s_b,s_b,trivial⟩ ⟨rfl,rfl,rfl,rfl,rfl,rfl,trivial⟩)
theorem U9(l:List Tk)(p:Nat):decide (((tkAt l p).1.k:Int)=3)=LP l p:=by
 rw[<- Q3f,Q4k]
 by_cases h:p<l.length
 ·rw[decide_eq_true h,Bool.true_and]
 ·have:tkAt l p=tk0:=by
   unfold tkAt
   rw[List.getD_eq_getElem?_getD,List.getElem?_eq_none (by omega)]
   rfl
  rw[decide_eq_false h,this]
  rfl
theorem Q01(E8 E9:Er)(l:List Tk)(hl:PTk l)(m:Msg)(hm:Small m 10000000000)(p:Nat)(hp:p<=100000):EG Tryz.prog (gE E8 E9) 206 [.box 1 0,.box 3 0] (mS l m p) (pmR m) (NE l E8 E9 (DA m (DJ l p))):=by
 refine B4 15 Tryz.func206 rfl rfl rfl fun w D bor mb=>?_
 try refine A0 ?_
 refine A8 ?_
 refine IQ 4 rfl rfl rfl rfl (kn rfl) rfl rfl rfl rfl rfl ?_
 refine IQ 5 rfl rfl rfl rfl (kn rfl) rfl rfl rfl rfl rfl ?_
 refine AG ?_
 refine A6 ?_
 try refine A0 ?_
 refine A1 (A5 rfl rfl rfl (A4 rfl (kn rfl) rfl rfl one_183) (A5 rfl rfl rfl (QH rfl (by kernel_rfl) (Q3 _ l hl.toTksOk p 0 (by omega) (by omega)) (kn rfl) rfl rfl ⟨kn rfl,trivial⟩) (A5 rfl rfl rfl (Q5A (fty:=3) (off:=0) rfl (kn rfl) (by kernel_rfl) (.inr ⟨_,int_3⟩) rfl) (A5 rfl rfl rfl (AN rfl (kn rfl) (kn rfl) D3) .nil)))) ?_
 try refine A0 ?_
 refine AO rfl (fun h=>?_) (fun h=>?_)
 ·have ht:LP l p=true:=by rw[<- U9];exact h
  try refine A0 ?_
  refine A8 ?_
  refine AB (A4 rfl (kn rfl) rfl rfl one_183) ?_
  refine AB (HM (fs:=[]) (cs:=[.box 4 0,.box 5 0]) rfl trivial ⟨(kn rfl),(kn rfl),trivial⟩) ?_
  refine AH rfl rfl rfl rfl (by kernel_rfl) (Q6M E8 E9 l hl m hm p hp) ⟨rfl,rfl,rfl,rfl,trivial⟩ ⟨rfl,rfl,rfl,rfl,rfl,rfl,trivial⟩ ⟨(kn rfl),⟨(kn rfl),⟨(kn rfl),trivial⟩⟩⟩ (RE.tidy) ?_
  rintro _ _ _ (⟨a,b,z,g,he,rfl,rfl,rfl⟩ | ⟨g,z,ho,rfl,rfl,rfl⟩)
  ·refine AG ?_
   refine A6 ?_
   try refine A0 ?_
   exact A7 (mS l g z) (pmR g) rfl (.tmp (kn rfl) (.nil)) (Imp.refl _) ⟨s_b,s_b,trivial⟩ ⟨rfl,rfl,rfl,rfl,rfl,rfl,trivial⟩ (.inl ⟨a,b,z,g,by rw[G7,ht];exact he,rfl,rfl,rfl⟩)
  ·refine AG ?_
   refine A6 ?_
   try refine A0 ?_
   exact A7 (mS l g z) (pmR g) rfl (.tmp (kn rfl) (.nil)) (Imp.refl _) ⟨s_b,s_b,trivial⟩ ⟨rfl,rfl,rfl,rfl,rfl,rfl,trivial⟩ (.inr ⟨g,z,by rw[G7,ht];exact ho,rfl,rfl,rfl⟩)
 ·have ht:LP l p=false:=by rw[<- U9];exact h
  try refine A0 ?_
  refine A8 ?_
  refine AB (A4 rfl (kn rfl) rfl rfl one_183) ?_
  refine AB (HM (fs:=[]) (cs:=[.box 4 0,.box 5 0]) rfl trivial ⟨(kn rfl),(kn rfl),trivial⟩) ?_
  refine AH rfl rfl rfl rfl (by kernel_rfl) (Q7j E8 E9 l hl m hm p hp) ⟨rfl,rfl,rfl,rfl,trivial⟩ ⟨rfl,rfl,rfl,rfl,rfl,rfl,trivial⟩ ⟨(kn rfl),⟨(kn rfl),⟨(kn rfl),trivial⟩⟩⟩ (RE.tidy) ?_
  rintro _ _ _ (⟨a,b,z,g,he,rfl,rfl,rfl⟩ | ⟨g,z,ho,rfl,rfl,rfl⟩)
  ·refine AG ?_
   refine A6 ?_
   try refine A0 ?_
   exact A7 (mS l g z) (pmR g) rfl (.tmp (kn rfl) (.nil)) (Imp.refl _) ⟨s_b,s_b,trivial⟩ ⟨rfl,rfl,rfl,rfl,rfl,rfl,trivial⟩ (.inl ⟨a,b,z,g,by rw[G7,ht];exact he,rfl,rfl,rfl⟩)
  ·refine AG ?_
   refine A6 ?_
   try refine A0 ?_
   exact A7 (mS l g z) (pmR g) rfl (.tmp (kn rfl) (.nil)) (Imp.refl _) ⟨s_b,s_b,trivial⟩ ⟨rfl,rfl,rfl,rfl,rfl,rfl,trivial⟩ (.inr ⟨g,z,by rw[G7,ht];exact ho,rfl,rfl,rfl⟩)
def K0{σ:Type}(l:List Tk)(least:Nat)(part:σ->Nat->AZ (σ×Nat)):Nat->σ->Nat->Nat->AZ (σ×Nat)
 | 0,_,_,p=>D1 p
 | n+1,x,k,p=>
  if(!(decide (k<least) || !tkIs l p 4 [125]))=true then .ok (x,p+1)
  else if tkIs l p 4 [59]then K0 l least part n x k (p+1)
  else
   match part x p with
   | .error e=>.error e
   | .ok (y,q)=>K0 l least part n y (k+1) q
def E5{σ:Type}(l:List Tk)(least:Nat)(part:σ->Nat->AZ (σ×Nat))(x:σ)(p:Nat):AZ (σ×Nat):=
 match BK l 4 [123] p with
 | .error e=>.error e
 | .ok q=>K0 l least part (l.length+1) x 0 q
abbrev enX(e:Enm):Bx:=⟨200,[.is (.string (str e.name)),.own 300,.is (.int .i64 e.line),.is (.int .i64 e.col)]⟩
abbrev enR(e:Enm):RL:=[(300,⟨206,4,e.vals.length,e.vals.flatMap Val.dats,false⟩)]
abbrev enB(l:List Tk)(e:Enm)(q:Nat):BL:=[(1,pX l q),(6,enX e)]
abbrev VE(l:List Tk)(E8 E9:Er)(r:AZ (Enm×Nat))(y:IV)(B1:BL)(R1:RL):Prop:=ME l E8 E9 (enB l) enR r y B1 R1
theorem VE.tidy{l:List Tk}{E8 E9:Er}{r:AZ (Enm×Nat)}{m:Enm}{q:Nat}(y:IV)(B1:BL)(R1:RL)(h:VE l E8 E9 r y B1 R1):H0 (enB l m q) (enR m) y B1 R1:=by
 rcases h with⟨a,b,z,x,_,rfl,rfl,rfl⟩ | ⟨x,z,_,rfl,rfl,rfl⟩<;>exact⟨rfl,rfl,rfl,rfl⟩
def CQ(l:List Tk)(e:Enm)(p:Nat):AZ (Enm×Nat):=
 match EA l p with
 | .error x=>.error x
 | .ok (v,q)=>.ok ({ e with vals:=e.vals++[v] },q)
theorem SR{l:List Tk}{e x:Enm}{p z:Nat}(h:CQ l e p=.ok (x,z)):x.vals.length=e.vals.length+1/\p<z/\z<=l.length:=by
 unfold CQ at h
 split at h
 ·cases h
 ·rename_i v q hv
  have:=LD hv
  injection h with h
  injection h with h1 h2
  subst h1 h2
  exact⟨by simp,by omega,by omega⟩
set_option maxHeartbeats 1000000 in
theorem Q6m(E8 E9:Er)(l:List Tk)(hl:PTk l)(e:Enm)(hev:e.vals.length<=100000000000)(p:Nat)(hp:p<=100000):EG Tryz.prog (gE E8 E9) 172 [.box 1 0,.box 6 0] (enB l e p) (enR e) (VE l E8 E9 (CQ l e p)):=by
 refine B4 58 Tryz.func172 rfl rfl rfl fun w D bor mb=>?_
 try refine A0 ?_
 have hll:=hl.len
 refine A1 (AE rfl rfl rfl rfl rfl .nil) ?_
 try refine A0 ?_
 refine A8 ?_
 refine AJ ?_
 refine AH rfl rfl rfl rfl (by kernel_rfl) (DB E8 E9 l hl.toTksOk (p) 1 (by omega)) ⟨rfl,trivial⟩ trivial ⟨(kn rfl),⟨(kn rfl),trivial⟩⟩ (TY.tidy) ?_
 rintro _ _ _ (⟨hk,rfl,rfl,rfl⟩ | ⟨hk,rfl,rfl,rfl⟩)
 ·refine AJ ?_
  refine B3 ?_
  refine B3 ?_
  refine AS 5 [.is (.int .i64 0),.is (.string ⟨#[]⟩),.is (.int .i64 0),.is (.int .i64 0),.is (.int .i64 0)] rfl rfl rfl rfl zr_128 (fun w D M V=>⟨rfl,fun j x v h1 h2=>AR _ h1 h2 rfl⟩) rfl rfl rfl rfl ?_
  refine AI rfl rfl rfl (kn rfl) rfl (kn rfl) rfl rfl sz_128 ?_
  refine AG ?_
  refine A6 ?_
  try refine A0 ?_
  refine A1 (AA rfl rfl rfl rfl rfl (A5 rfl rfl rfl (AP rfl (kn rfl) rfl ifc_28) .nil)) ?_
  try refine A0 ?_
  refine BD ?_
  try refine A0 ?_
  refine A1 (AA rfl rfl rfl rfl rfl (AE rfl rfl rfl rfl rfl .nil)) ?_
  try refine A0 ?_
  exact A7 (enB l e p) (enR e) rfl (.tmp (kn rfl) (.nil)) (Imp.refl _) ⟨s_b,s_b,trivial⟩ ⟨rfl,trivial⟩ (.inl ⟨p,9,p,e,by simp only[CQ,EA,DY hk],rfl,rfl,rfl⟩)
 refine AJ ?_
 refine B3 ?_
 refine B3 ?_
 refine AS 5 [.is (.int .i64 0),.is (.string ⟨#[]⟩),.is (.int .i64 0),.is (.int .i64 0),.is (.int .i64 0)] rfl rfl rfl rfl zr_128 (fun w D M V=>⟨rfl,fun j x v h1 h2=>AR _ h1 h2 rfl⟩) rfl rfl rfl rfl ?_
 refine AI rfl rfl rfl (kn rfl) rfl (kn rfl) rfl rfl sz_128 ?_
 refine AG ?_
 refine A6 ?_
 try refine A0 ?_
 refine A1 (AA rfl rfl rfl rfl rfl (A5 rfl rfl rfl (AQ rfl (kn rfl) ifc_28) .nil)) ?_
 try refine A0 ?_
 refine C1 ?_
 try refine A0 ?_
 obtain⟨hlt0,hx⟩:=G4 hk
 refine A8 ?_
 refine AJ ?_
 refine AB (AC (ds:=[_]) [(0,_)] rfl ⟨rfl,(kn rfl),trivial⟩ rfl sl_54 sz_9 zr_9 (fun w D=>.cons (.cell _) (.nil _ _)) rfl rfl rfl rfl rfl) ?_
 refine AH rfl rfl rfl rfl (by kernel_rfl) (D4 E8 E9 l hl 4 [61] rfl (by decide) (p+1) (by omega)) ⟨rfl,trivial⟩ trivial ⟨(kn rfl),⟨(kn rfl),trivial⟩⟩ (PE.tidy) ?_
 rintro _ _ _ (⟨a,b,z,he,rfl,rfl,rfl⟩ | ⟨q,ho,rfl,rfl,rfl⟩)
 ·refine AG ?_
  refine A6 ?_
  try refine A0 ?_
  refine A1 (AA rfl rfl rfl rfl rfl (A5 rfl rfl rfl (AP rfl (kn rfl) rfl ifc_28) .nil)) ?_
  try refine A0 ?_
  refine BD ?_
  try refine A0 ?_
  refine A1 (AA rfl rfl rfl rfl rfl (AE rfl rfl rfl rfl rfl .nil)) ?_
  try refine A0 ?_
  exact A7 (enB l e z) (enR e) rfl (.tmp (kn rfl) (.nil)) (Imp.refl _) ⟨s_b,s_b,trivial⟩ ⟨rfl,trivial⟩ (.inl ⟨a,b,z,e,by simp only[CQ,EA,hx,he],rfl,rfl,rfl⟩)
 refine AG ?_
 refine A6 ?_
 try refine A0 ?_
 refine A1 (AA rfl rfl rfl rfl rfl (A5 rfl rfl rfl (AQ rfl (kn rfl) ifc_28) .nil)) ?_
 try refine A0 ?_
 refine C1 ?_
 try refine A0 ?_
 have ho1:=BA ho
 refine A1 (AE rfl rfl rfl rfl rfl .nil) ?_
 try refine A0 ?_
 refine A8 ?_
 refine AJ ?_
 refine AB (AC (ds:=[_]) [(0,_)] rfl ⟨rfl,(kn rfl),trivial⟩ rfl sl_54 sz_9 zr_9 (fun w D=>.cons (.cell _) (.nil _ _)) rfl rfl rfl rfl rfl) ?_
 refine AH rfl rfl rfl rfl (by kernel_rfl) (CR _ l hl [45] 4 rfl (by decide) q (by omega)) ⟨rfl,trivial⟩ trivial ⟨(kn rfl),⟨(kn rfl),trivial⟩⟩ (fun _ _ _ h=>PY.tidy h.1 h.2.1 h.2.2) ?_
 rintro _ _ _ ⟨rfl,rfl,rfl⟩
 refine A6 ?_
 try refine A0 ?_
 refine AO rfl (fun h=>?_) (fun h=>?_)
 ·have hlt:=B7 h
  rw[h]
  try refine A0 ?_
  refine A1 (AE rfl rfl rfl rfl rfl .nil) ?_
  try refine A0 ?_
  refine A8 ?_
  refine AJ ?_
  refine AH rfl rfl rfl rfl (by kernel_rfl) (DB E8 E9 l hl.toTksOk (q+1) 2 (by omega)) ⟨rfl,trivial⟩ trivial ⟨(kn rfl),⟨(kn rfl),trivial⟩⟩ (TY.tidy) ?_
  rintro _ _ _ (⟨hk2,rfl,rfl,rfl⟩ | ⟨hk2,rfl,rfl,rfl⟩)
  ·refine AJ ?_
   refine B3 ?_
   refine B3 ?_
   refine AS 9 [.is (.int .i64 0),.is (.string ⟨#[]⟩),.is (.int .i64 0),.is (.int .i64 0),.is (.int .i64 0)] rfl rfl rfl rfl zr_128 (fun w D M V=>⟨rfl,fun j x v h1 h2=>AR _ h1 h2 rfl⟩) rfl rfl rfl rfl ?_
   refine AI rfl rfl rfl (kn rfl) rfl (kn rfl) rfl rfl sz_128 ?_
   refine AG ?_
   refine A6 ?_
   try refine A0 ?_
   refine A1 (AA rfl rfl rfl rfl rfl (A5 rfl rfl rfl (AP rfl (kn rfl) rfl ifc_28) .nil)) ?_
   try refine A0 ?_
   refine BD ?_
   try refine A0 ?_
   refine A1 (AA rfl rfl rfl rfl rfl (AE rfl rfl rfl rfl rfl .nil)) ?_
   try refine A0 ?_
   exact A7 (enB l e (q+1)) (enR e) rfl (.tmp (kn rfl) (.nil)) (Imp.refl _) ⟨s_b,s_b,trivial⟩ ⟨rfl,trivial⟩ (.inl ⟨q+1,9,q+1,e,by simp only[CQ,EA,hx,ho,h,if_true,GZ hk2],rfl,rfl,rfl⟩)
  refine AJ ?_
  refine B3 ?_
  refine B3 ?_
  refine AS 9 [.is (.int .i64 0),.is (.string ⟨#[]⟩),.is (.int .i64 0),.is (.int .i64 0),.is (.int .i64 0)] rfl rfl rfl rfl zr_128 (fun w D M V=>⟨rfl,fun j x v h1 h2=>AR _ h1 h2 rfl⟩) rfl rfl rfl rfl ?_
  refine AI rfl rfl rfl (kn rfl) rfl (kn rfl) rfl rfl sz_128 ?_
  refine AG ?_
  refine A6 ?_
  try refine A0 ?_
  refine A1 (AA rfl rfl rfl rfl rfl (A5 rfl rfl rfl (AQ rfl (kn rfl) ifc_28) .nil)) ?_
  try refine A0 ?_
  refine C1 ?_
  try refine A0 ?_
  obtain⟨hlt2,hnn⟩:=J2 hk2
  have hz3:=hl.num (q+1)
  refine CD 17 mixed (by kernel_rfl) rfl rfl rfl rfl (kn rfl) (fun _ _ _ _ h=>h) (AA rfl rfl rfl rfl rfl (A5 rfl rfl rfl (AL rfl (kn rfl)) (A5 rfl rfl rfl (A3 rfl (kn rfl) off_200_1) (A5 rfl rfl rfl (A4 rfl (kn rfl) rfl rfl one_198) (A5 rfl rfl rfl (A3 rfl (kn rfl) off_128_1) (A5 rfl rfl rfl (A4 rfl (kn rfl) rfl rfl one_9) (AA rfl rfl rfl rfl rfl (A5 rfl rfl rfl (A3 rfl (kn rfl) off_128_2) (A5 rfl rfl rfl (A4 rfl (kn rfl) rfl rfl one_3) (A5 rfl rfl rfl (AN rfl (kn rfl) (kn rfl) (Q1C (by first | omega | (dsimp only;omega)))) (A5 rfl rfl rfl (A3 rfl (kn rfl) off_128_3) (A5 rfl rfl rfl (A4 rfl (kn rfl) rfl rfl one_3) (A5 rfl rfl rfl (A3 rfl (kn rfl) off_128_4) (A5 rfl rfl rfl (A4 rfl (kn rfl) rfl rfl one_3) (A5 rfl rfl rfl (B9 (ds:=[_,_,_,_]) [(0,_),(1,_),(2,_),(3,_)] rfl ⟨rfl,(kn rfl),⟨rfl,(kn rfl),⟨rfl,(kn rfl),⟨rfl,(kn rfl),trivial⟩⟩⟩⟩ rfl pl_206 zr_206 (fun w D=>.cons (.cell _) (.cons (.cell _) (.cons (.cell _) (.cons (.cell _) (.nil _ _))))) rfl) (A5 rfl rfl rfl (AC (ds:=[_,_,_,_]) [(0,_)] rfl ⟨rfl,(kn rfl),trivial⟩ rfl sl_198 sz_206 zr_206 (fun w D=>.cons (.cell _) (.cons (.cell _) (.cons (.cell _) (.cons (.cell _) (.nil _ _))))) rfl rfl rfl rfl rfl) .nil)))))))))))))))) ?_
  refine BV rfl rfl rfl rfl (kn rfl) rfl (kn rfl) sl_198 ap_198 rfl rfl (by first | omega | (dsimp only;omega)) (by first | omega | (dsimp only;omega)) ?_
  refine AB (AL rfl (kn rfl)) ?_
  refine AB (A3 rfl (kn rfl) off_200_1) ?_
  refine B6 rfl rfl rfl (kn rfl) rfl (kn rfl) rfl rfl sz_198 rfl ?_
  refine A6 ?_
  try refine A0 ?_
  refine A8 ?_
  refine AJ ?_
  refine AB (AC (ds:=[_]) [(0,_)] rfl ⟨rfl,(kn rfl),trivial⟩ rfl sl_54 sz_9 zr_9 (fun w D=>.cons (.cell _) (.nil _ _)) rfl rfl rfl rfl rfl) ?_
  refine AH rfl rfl rfl rfl (by kernel_rfl) (D4 E8 E9 l hl 4 [59] rfl (by decide) (q+1+1) (by omega)) ⟨rfl,trivial⟩ trivial ⟨(kn rfl),⟨(kn rfl),trivial⟩⟩ (PE.tidy) ?_
  rintro _ _ _ (⟨a,b,z,he,rfl,rfl,rfl⟩ | ⟨z,hz,rfl,rfl,rfl⟩)
  ·refine AG ?_
   refine A6 ?_
   try refine A0 ?_
   exact A7 (enB l { e with vals:=e.vals++[⟨(tkAt l p).1.t,(-1)*((tkAt l (q+1)).1.n:Int),(tkAt l p).2.1,(tkAt l p).2.2⟩] } z) (enR { e with vals:=e.vals++[⟨(tkAt l p).1.t,(-1)*((tkAt l (q+1)).1.n:Int),(tkAt l p).2.1,(tkAt l p).2.2⟩] }) rfl (.tmp (kn rfl) (.nil)) (Imp.refl _) ⟨s_b,s_b,trivial⟩ ⟨E4 rfl (by simp) (by simp[List.flatMap_append,Val.dats,Val.cells]),trivial⟩ (.inl ⟨a,b,z,_,by simp only[CQ,EA,hx,ho,h,if_true,hnn,he],rfl,rfl,rfl⟩)
  ·refine AG ?_
   refine A6 ?_
   try refine A0 ?_
   exact A7 (enB l { e with vals:=e.vals++[⟨(tkAt l p).1.t,(-1)*((tkAt l (q+1)).1.n:Int),(tkAt l p).2.1,(tkAt l p).2.2⟩] } z) (enR { e with vals:=e.vals++[⟨(tkAt l p).1.t,(-1)*((tkAt l (q+1)).1.n:Int),(tkAt l p).2.1,(tkAt l p).2.2⟩] }) rfl (.tmp (kn rfl) (.nil)) (Imp.refl _) ⟨s_b,s_b,trivial⟩ ⟨E4 rfl (by simp) (by simp[List.flatMap_append,Val.dats,Val.cells]),trivial⟩ (.inr ⟨_,z,by simp only[CQ,EA,hx,ho,h,if_true,hnn,hz,Int.neg_mul,Int.one_mul],rfl,rfl,rfl⟩)
 ·rw[h]
  try refine A0 ?_
  refine A8 ?_
  refine AJ ?_
  refine AH rfl rfl rfl rfl (by kernel_rfl) (DB E8 E9 l hl.toTksOk (q) 2 (by omega)) ⟨rfl,trivial⟩ trivial ⟨(kn rfl),⟨(kn rfl),trivial⟩⟩ (TY.tidy) ?_
  rintro _ _ _ (⟨hk2,rfl,rfl,rfl⟩ | ⟨hk2,rfl,rfl,rfl⟩)
  ·refine AJ ?_
   refine B3 ?_
   refine B3 ?_
   refine AS 9 [.is (.int .i64 0),.is (.string ⟨#[]⟩),.is (.int .i64 0),.is (.int .i64 0),.is (.int .i64 0)] rfl rfl rfl rfl zr_128 (fun w D M V=>⟨rfl,fun j x v h1 h2=>AR _ h1 h2 rfl⟩) rfl rfl rfl rfl ?_
   refine AI rfl rfl rfl (kn rfl) rfl (kn rfl) rfl rfl sz_128 ?_
   refine AG ?_
   refine A6 ?_
   try refine A0 ?_
   refine A1 (AA rfl rfl rfl rfl rfl (A5 rfl rfl rfl (AP rfl (kn rfl) rfl ifc_28) .nil)) ?_
   try refine A0 ?_
   refine BD ?_
   try refine A0 ?_
   refine A1 (AA rfl rfl rfl rfl rfl (AE rfl rfl rfl rfl rfl .nil)) ?_
   try refine A0 ?_
   exact A7 (enB l e (q)) (enR e) rfl (.tmp (kn rfl) (.nil)) (Imp.refl _) ⟨s_b,s_b,trivial⟩ ⟨rfl,trivial⟩ (.inl ⟨q,9,q,e,by simp only[CQ,EA,hx,ho,h,GZ hk2];rfl,rfl,rfl,rfl⟩)
  refine AJ ?_
  refine B3 ?_
  refine B3 ?_
  refine AS 9 [.is (.int .i64 0),.is (.string ⟨#[]⟩),.is (.int .i64 0),.is (.int .i64 0),.is (.int .i64 0)] rfl rfl rfl rfl zr_128 (fun w D M V=>⟨rfl,fun j x v h1 h2=>AR _ h1 h2 rfl⟩) rfl rfl rfl rfl ?_
  refine AI rfl rfl rfl (kn rfl) rfl (kn rfl) rfl rfl sz_128 ?_
  refine AG ?_
  refine A6 ?_
  try refine A0 ?_
  refine A1 (AA rfl rfl rfl rfl rfl (A5 rfl rfl rfl (AQ rfl (kn rfl) ifc_28) .nil)) ?_
  try refine A0 ?_
  refine C1 ?_
  try refine A0 ?_
  obtain⟨hlt2,hnn⟩:=J2 hk2
  have hz3:=hl.num (q)
  refine CD 17 mixed (by kernel_rfl) rfl rfl rfl rfl (kn rfl) (fun _ _ _ _ h=>h) (AA rfl rfl rfl rfl rfl (A5 rfl rfl rfl (AL rfl (kn rfl)) (A5 rfl rfl rfl (A3 rfl (kn rfl) off_200_1) (A5 rfl rfl rfl (A4 rfl (kn rfl) rfl rfl one_198) (A5 rfl rfl rfl (A3 rfl (kn rfl) off_128_1) (A5 rfl rfl rfl (A4 rfl (kn rfl) rfl rfl one_9) (AA rfl rfl rfl rfl rfl (A5 rfl rfl rfl (A3 rfl (kn rfl) off_128_2) (A5 rfl rfl rfl (A4 rfl (kn rfl) rfl rfl one_3) (A5 rfl rfl rfl (AN rfl (kn rfl) (kn rfl) (Q1C (by first | omega | (dsimp only;omega)))) (A5 rfl rfl rfl (A3 rfl (kn rfl) off_128_3) (A5 rfl rfl rfl (A4 rfl (kn rfl) rfl rfl one_3) (A5 rfl rfl rfl (A3 rfl (kn rfl) off_128_4) (A5 rfl rfl rfl (A4 rfl (kn rfl) rfl rfl one_3) (A5 rfl rfl rfl (B9 (ds:=[_,_,_,_]) [(0,_),(1,_),(2,_),(3,_)] rfl ⟨rfl,(kn rfl),⟨rfl,(kn rfl),⟨rfl,(kn rfl),⟨rfl,(kn rfl),trivial⟩⟩⟩⟩ rfl pl_206 zr_206 (fun w D=>.cons (.cell _) (.cons (.cell _) (.cons (.cell _) (.cons (.cell _) (.nil _ _))))) rfl) (A5 rfl rfl rfl (AC (ds:=[_,_,_,_]) [(0,_)] rfl ⟨rfl,(kn rfl),trivial⟩ rfl sl_198 sz_206 zr_206 (fun w D=>.cons (.cell _) (.cons (.cell _) (.cons (.cell _) (.cons (.cell _) (.nil _ _))))) rfl rfl rfl rfl rfl) .nil)))))))))))))))) ?_
  refine BV rfl rfl rfl rfl (kn rfl) rfl (kn rfl) sl_198 ap_198 rfl rfl (by first | omega | (dsimp only;omega)) (by first | omega | (dsimp only;omega)) ?_
  refine AB (AL rfl (kn rfl)) ?_
  refine AB (A3 rfl (kn rfl) off_200_1) ?_
  refine B6 rfl rfl rfl (kn rfl) rfl (kn rfl) rfl rfl sz_198 rfl ?_
  refine A6 ?_
  try refine A0 ?_
  refine A8 ?_
  refine AJ ?_
  refine AB (AC (ds:=[_]) [(0,_)] rfl ⟨rfl,(kn rfl),trivial⟩ rfl sl_54 sz_9 zr_9 (fun w D=>.cons (.cell _) (.nil _ _)) rfl rfl rfl rfl rfl) ?_
  refine AH rfl rfl rfl rfl (by kernel_rfl) (D4 E8 E9 l hl 4 [59] rfl (by decide) (q+1) (by omega)) ⟨rfl,trivial⟩ trivial ⟨(kn rfl),⟨(kn rfl),trivial⟩⟩ (PE.tidy) ?_
  rintro _ _ _ (⟨a,b,z,he,rfl,rfl,rfl⟩ | ⟨z,hz,rfl,rfl,rfl⟩)
  ·refine AG ?_
   refine A6 ?_
   try refine A0 ?_
   exact A7 (enB l { e with vals:=e.vals++[⟨(tkAt l p).1.t,1*((tkAt l (q)).1.n:Int),(tkAt l p).2.1,(tkAt l p).2.2⟩] } z) (enR { e with vals:=e.vals++[⟨(tkAt l p).1.t,1*((tkAt l (q)).1.n:Int),(tkAt l p).2.1,(tkAt l p).2.2⟩] }) rfl (.tmp (kn rfl) (.nil)) (Imp.refl _) ⟨s_b,s_b,trivial⟩ ⟨E4 rfl (by simp) (by simp[List.flatMap_append,Val.dats,Val.cells]),trivial⟩ (.inl ⟨a,b,z,_,by simp only[CQ,EA,hx,ho,h,hnn,he];rfl,rfl,rfl,rfl⟩)
  ·refine AG ?_
   refine A6 ?_
   try refine A0 ?_
   exact A7 (enB l { e with vals:=e.vals++[⟨(tkAt l p).1.t,1*((tkAt l (q)).1.n:Int),(tkAt l p).2.1,(tkAt l p).2.2⟩] } z) (enR { e with vals:=e.vals++[⟨(tkAt l p).1.t,1*((tkAt l (q)).1.n:Int),(tkAt l p).2.1,(tkAt l p).2.2⟩] }) rfl (.tmp (kn rfl) (.nil)) (Imp.refl _) ⟨s_b,s_b,trivial⟩ ⟨E4 rfl (by simp) (by simp[List.flatMap_append,Val.dats,Val.cells]),trivial⟩ (.inr ⟨_,z,by simp only[CQ,EA,hx,ho,h,hnn,hz,Int.one_mul];rfl,rfl,rfl,rfl⟩)
abbrev PP(l:List Tk)(e:Enm)(q:Nat):BL:=[(4,ptX),(1,pX l q),(6,enX e)]
abbrev VE4(l:List Tk)(E8 E9:Er)(r:AZ (Enm×Nat))(y:IV)(B1:BL)(R1:RL):Prop:=ME l E8 E9 (PP l) enR r y B1 R1
theorem VE4.tidy{l:List Tk}{E8 E9:Er}{r:AZ (Enm×Nat)}{m:Enm}{q:Nat}(y:IV)(B1:BL)(R1:RL)(h:VE4 l E8 E9 r y B1 R1):H0 (PP l m q) (enR m) y B1 R1:=by
 rcases h with⟨a,b,z,x,_,rfl,rfl,rfl⟩ | ⟨x,z,_,rfl,rfl,rfl⟩<;>exact⟨rfl,rfl,rfl,rfl⟩
abbrev Q7L:IV:=.clo (.func 171) [] [.box 4 0,.box 6 0]
theorem Q4l(E8 E9:Er)(l:List Tk)(hl:PTk l)(e:Enm)(hev:e.vals.length<=100000000000)(p:Nat)(hp:p<=100000):EG Tryz.prog (gE E8 E9) 171 [.box 4 0,.box 6 0] (PP l e p) (enR e) (VE4 l E8 E9 (CQ l e p)):=by
 refine B4 5 Tryz.func171 rfl rfl rfl fun w D bor mb=>?_
 try refine A0 ?_
 refine A1 (AE rfl rfl rfl rfl rfl .nil) ?_
 try refine A0 ?_
 refine A8 ?_
 refine AB (A4 rfl (kn rfl) rfl rfl one_183) ?_
 refine AH rfl rfl rfl rfl (by kernel_rfl) (Q6m E8 E9 l hl e hev p hp) ⟨rfl,rfl,trivial⟩ ⟨rfl,trivial⟩ ⟨(kn rfl),⟨(kn rfl),trivial⟩⟩ (VE.tidy) ?_
 rintro _ _ _ (⟨a,b,z,g,he,rfl,rfl,rfl⟩ | ⟨g,z,ho,rfl,rfl,rfl⟩)
 ·refine AG ?_
  refine A6 ?_
  try refine A0 ?_
  exact A7 (PP l g z) (enR g) rfl (.tmp (kn rfl) (.nil)) (Imp.refl _) ⟨s_b,s_b,s_b,trivial⟩ ⟨rfl,trivial⟩ (.inl ⟨a,b,z,g,he,rfl,rfl,rfl⟩)
 ·refine AG ?_
  refine A6 ?_
  try refine A0 ?_
  exact A7 (PP l g z) (enR g) rfl (.tmp (kn rfl) (.nil)) (Imp.refl _) ⟨s_b,s_b,s_b,trivial⟩ ⟨rfl,trivial⟩ (.inr ⟨g,z,ho,rfl,rfl,rfl⟩)
def Q13(e:Enm)(z:Nat):Prop:=e.vals.length<=z
set_option maxHeartbeats 2000000 in
theorem Q7J(E8 E9:Er)(l:List Tk)(hl:PTk l)(x0:Enm)(p:Nat)(hp:p<=100000)(hx0:∀ q,p<q->Q13 x0 q):EG Tryz.prog (gE E8 E9) 168 [.box 1 0,.part (iP 1),Q7L] (PP l x0 p) (enR x0) (ME l E8 E9 (PP l) (enR) (E5 l 1 (CQ l) x0 p)):=by
 refine B4 35 Tryz.func168 rfl rfl rfl fun w D bor mb=>?_
 try refine A0 ?_
 have hll:=hl.len
 obtain⟨rr,hrr⟩:∃ rr,rr=E5 l 1 (CQ l) x0 p:=⟨_,rfl⟩
 rw[<- hrr]
 refine A1 (AE rfl rfl rfl rfl rfl .nil) ?_
 try refine A0 ?_
 refine A8 ?_
 refine AJ ?_
 refine AB (AC (ds:=[_]) [(0,_)] rfl ⟨rfl,(kn rfl),trivial⟩ rfl sl_54 sz_9 zr_9 (fun w D=>.cons (.cell _) (.nil _ _)) rfl rfl rfl rfl rfl) ?_
 refine AH rfl rfl rfl rfl (by kernel_rfl) (D4 E8 E9 l hl 4 [123] rfl (by decide) p (by omega)) ⟨rfl,trivial⟩ trivial ⟨(kn rfl),⟨(kn rfl),trivial⟩⟩ (PE.tidy) ?_
 rintro _ _ _ (⟨a,b,z,he,rfl,rfl,rfl⟩ | ⟨q0,ho,rfl,rfl,rfl⟩)
 ·refine AG ?_
  refine A6 ?_
  try refine A0 ?_
  refine A1 (AA rfl rfl rfl rfl rfl (A5 rfl rfl rfl (AP rfl (kn rfl) rfl ifc_28) .nil)) ?_
  try refine A0 ?_
  refine BD ?_
  try refine A0 ?_
  refine A1 (AA rfl rfl rfl rfl rfl (AE rfl rfl rfl rfl rfl .nil)) ?_
  try refine A0 ?_
  exact A7 (PP l x0 z) (enR x0) rfl (.tmp (kn rfl) (.nil)) (Imp.refl _) ⟨s_b,s_b,s_b,trivial⟩ ⟨rfl,trivial⟩ (.inl ⟨a,b,z,x0,by rw[hrr,E5,he],rfl,rfl,rfl⟩)
 have ho1:=BA ho
 refine AG ?_
 refine A6 ?_
 try refine A0 ?_
 refine A1 (AA rfl rfl rfl rfl rfl (A5 rfl rfl rfl (AQ rfl (kn rfl) ifc_28) .nil)) ?_
 try refine A0 ?_
 refine C1 ?_
 try refine A0 ?_
 refine A1 (AE rfl rfl rfl rfl rfl .nil) ?_
 try refine A0 ?_
 rw[E5,ho]at hrr
 dsimp only at hrr
 refine CB (ι:={ i:Nat×Enm×Nat×Nat // 1<=i.1/\l.length+1<=i.1+i.2.2.2/\i.2.2.2<=l.length/\i.2.2.1<=i.2.2.2/\Q13 i.2.1 i.2.2.2/\rr=K0 l 1 (CQ l) i.1 i.2.1 i.2.2.1 i.2.2.2 })
  (fun i=>[(0,.box 1 0),(1,.part (iP 1)),(2,Q7L),(8,.is (.int .i64 (i.1.2.2.1:Int)))])
  (fun i=>PP l i.1.2.1 i.1.2.2.2) (fun i=>enR i.1.2.1)
  (fun i=>i.1.1) ⟨(l.length+1,x0,0,q0),by omega,by dsimp only;omega,by dsimp only;omega,by dsimp only;omega,hx0 q0 (by omega),hrr⟩
  (fun K=>B8 ⟨s_t,s_t,s_t,s_t,trivial⟩ ⟨s_b,s_b,s_b,trivial⟩ ⟨rfl,trivial⟩) ?_
 rintro⟨⟨n',x,k,q⟩,hn1,hn,hq,hk,hbd,hw⟩
 dsimp only at hn1 hn hq hk hbd hw ⊢
 obtain⟨n,rfl⟩:∃ n,n'=n+1:=⟨n'-1,by omega⟩
 rw[K0]at hw
 try refine A0 ?_
 refine A8 ?_
 refine AJ ?_
 refine AJ ?_
 refine AB (AN rfl (kn rfl) (kn rfl) CP) ?_
 refine AJ ?_
 refine C6 rfl rfl rfl (fun h=>C8 rfl (kn rfl)) ?_
 refine C6 rfl rfl rfl (fun h=>AC (ds:=[_]) [(0,_)] rfl ⟨rfl,(kn rfl),trivial⟩ rfl sl_54 sz_9 zr_9 (fun w D=>.cons (.cell _) (.nil _ _)) rfl rfl rfl rfl rfl) ?_
 refine L2 rfl rfl rfl (fun h=>?_) (fun h=>?_)
 ·have hkl:¬ k<1:=by
   have h0:=of_decide_eq_false (J0 h)
   omega
  refine AH rfl rfl rfl rfl (by kernel_rfl) (CR _ l hl [125] 4 rfl (by decide) q (by omega)) ⟨rfl,trivial⟩ trivial ⟨(A9 rfl h),⟨(A9 rfl h),trivial⟩⟩ (fun _ _ _ h=>PY.tidy h.1 h.2.1 h.2.2) ?_
  rintro _ _ _ ⟨rfl,rfl,rfl⟩
  refine C6 rfl rfl rfl (fun h=>DL rfl (kn rfl)) ?_
  refine AB (EJ rfl (kn rfl) (fun hb=>A9 rfl hb)) ?_
  refine A6 ?_
  try refine A0 ?_
  have h0:=J0 h
  rw[h0,Bool.false_or]
  rw[decide_eq_false hkl,Bool.false_or]at hw
  cases h1:tkIs l q 4 [125]
  ·rw[h1]at hw
   rw[if_neg (by decide)]at hw
   refine BD ?_
   try refine A0 ?_
   refine A8 ?_
   refine AJ ?_
   refine AB (AC (ds:=[_]) [(0,_)] rfl ⟨rfl,(kn rfl),trivial⟩ rfl sl_54 sz_9 zr_9 (fun w D=>.cons (.cell _) (.nil _ _)) rfl rfl rfl rfl rfl) ?_
   refine AH rfl rfl rfl rfl (by kernel_rfl) (CR _ l hl [59] 4 rfl (by decide) q (by omega)) ⟨rfl,trivial⟩ trivial ⟨(kn rfl),⟨(kn rfl),trivial⟩⟩ (fun _ _ _ h=>PY.tidy h.1 h.2.1 h.2.2) ?_
   rintro _ _ _ ⟨rfl,rfl,rfl⟩
   refine A6 ?_
   try refine A0 ?_
   refine AO rfl (fun h2=>?_) (fun h2=>?_)
   ·have hlt:=B7 h2
    rw[if_pos h2]at hw
    rw[h2]
    try refine A0 ?_
    refine BB ⟨(n,x,k,q+1),by omega,by dsimp only;omega,by dsimp only;omega,by dsimp only;omega,Nat.le_trans hbd (by dsimp only;omega),hw⟩ (by dsimp only;omega) (fun K=>B8 ⟨s_t,s_t,s_t,s_t,trivial⟩ ⟨s_b,s_b,s_b,trivial⟩ ⟨rfl,trivial⟩)
   rw[if_neg (by rw[h2];decide)]at hw
   rw[h2]
   try refine A0 ?_
   refine A8 ?_
   refine AJ ?_
   refine F9 (zs:=[]) rfl rfl rfl rfl (by kernel_rfl) (Q4l E8 E9 l hl x (by have:x.vals.length<=q:=hbd;omega) q (by omega)) ⟨rfl,rfl,rfl,trivial⟩ ⟨rfl,trivial⟩ (kn rfl) trivial rfl (VE4.tidy) ?_
   rintro _ _ _ (⟨a,b,z,g,he,rfl,rfl,rfl⟩ | ⟨y,r,ho,rfl,rfl,rfl⟩)
   ·refine AG ?_
    refine A6 ?_
    try refine A0 ?_
    refine A1 (AA rfl rfl rfl rfl rfl (A5 rfl rfl rfl (AP rfl (kn rfl) rfl ifc_28) .nil)) ?_
    try refine A0 ?_
    refine BD ?_
    try refine A0 ?_
    refine A1 (AA rfl rfl rfl rfl rfl (AE rfl rfl rfl rfl rfl .nil)) ?_
    try refine A0 ?_
    exact A7 (PP l g z) (enR g) rfl (.tmp (kn rfl) (.nil)) (Imp.refl _) ⟨s_b,s_b,s_b,trivial⟩ ⟨rfl,trivial⟩ (.inl ⟨a,b,z,g,by rw[hw,he],rfl,rfl,rfl⟩)
   rw[ho]at hw
   dsimp only at hw
   obtain⟨hv1,hv2,hv3⟩:=SR ho
   refine AG ?_
   refine A6 ?_
   try refine A0 ?_
   refine A1 (AA rfl rfl rfl rfl rfl (A5 rfl rfl rfl (AQ rfl (kn rfl) ifc_28) .nil)) ?_
   try refine A0 ?_
   refine C1 ?_
   try refine A0 ?_
   refine A1 (AA rfl rfl rfl rfl rfl (A5 rfl rfl rfl (AN rfl (kn rfl) (kn rfl) (BF (by first | omega | (dsimp only;omega)))) (AE rfl rfl rfl rfl rfl .nil))) ?_
   try refine A0 ?_
   refine BB ⟨(n,y,k+1,r),by omega,by dsimp only;omega,by dsimp only;omega,by dsimp only;omega,by have:x.vals.length<=q:=hbd;show y.vals.length<=r;omega,hw⟩ (by dsimp only;omega) (fun K=>B8 ⟨s_t,s_t,s_t,s_t,trivial⟩ ⟨s_b,s_b,s_b,trivial⟩ ⟨rfl,trivial⟩)
  ·rw[h1]at hw
   rw[if_pos (by decide)]at hw
   refine C1 ?_
   try refine A0 ?_
   refine A1 (AE rfl rfl rfl rfl rfl .nil) ?_
   try refine A0 ?_
   exact A7 (PP l x (q+1)) (enR x) rfl (.tmp (kn rfl) (.nil)) (Imp.refl _) ⟨s_b,s_b,s_b,trivial⟩ ⟨rfl,trivial⟩ (.inr ⟨x,q+1,hw,rfl,rfl,rfl⟩)
 ·have hkl:k<1:=by
   have h0:=of_decide_eq_true (IB h)
   omega
  have h0:=IB h
  refine C6 (y:=.is (.bool false)) rfl rfl rfl (fun h'=>absurd (h'.symm.trans h) (by decide)) ?_
  refine AB (EJ rfl (kn rfl) (fun hb=>A9 rfl hb)) ?_
  refine A6 ?_
  try refine A0 ?_
  rw[h0,Bool.true_or]
  rw[decide_eq_true hkl,Bool.true_or]at hw
  rw[if_neg (by decide)]at hw
  refine BD ?_
  try refine A0 ?_
  refine A8 ?_
  refine AJ ?_
  refine AB (AC (ds:=[_]) [(0,_)] rfl ⟨rfl,(kn rfl),trivial⟩ rfl sl_54 sz_9 zr_9 (fun w D=>.cons (.cell _) (.nil _ _)) rfl rfl rfl rfl rfl) ?_
  refine AH rfl rfl rfl rfl (by kernel_rfl) (CR _ l hl [59] 4 rfl (by decide) q (by omega)) ⟨rfl,trivial⟩ trivial ⟨(kn rfl),⟨(kn rfl),trivial⟩⟩ (fun _ _ _ h=>PY.tidy h.1 h.2.1 h.2.2) ?_
  rintro _ _ _ ⟨rfl,rfl,rfl⟩
  refine A6 ?_
  try refine A0 ?_
  refine AO rfl (fun h2=>?_) (fun h2=>?_)
  ·have hlt:=B7 h2
   rw[if_pos h2]at hw
   rw[h2]
   try refine A0 ?_
   refine BB ⟨(n,x,k,q+1),by omega,by dsimp only;omega,by dsimp only;omega,by dsimp only;omega,Nat.le_trans hbd (by dsimp only;omega),hw⟩ (by dsimp only;omega) (fun K=>B8 ⟨s_t,s_t,s_t,s_t,trivial⟩ ⟨s_b,s_b,s_b,trivial⟩ ⟨rfl,trivial⟩)
  rw[if_neg (by rw[h2];decide)]at hw
  rw[h2]
  try refine A0 ?_
  refine A8 ?_
  refine AJ ?_
  refine F9 (zs:=[]) rfl rfl rfl rfl (by kernel_rfl) (Q4l E8 E9 l hl x (by have:x.vals.length<=q:=hbd;omega) q (by omega)) ⟨rfl,rfl,rfl,trivial⟩ ⟨rfl,trivial⟩ (kn rfl) trivial rfl (VE4.tidy) ?_
  rintro _ _ _ (⟨a,b,z,g,he,rfl,rfl,rfl⟩ | ⟨y,r,ho,rfl,rfl,rfl⟩)
  ·refine AG ?_
   refine A6 ?_
   try refine A0 ?_
   refine A1 (AA rfl rfl rfl rfl rfl (A5 rfl rfl rfl (AP rfl (kn rfl) rfl ifc_28) .nil)) ?_
   try refine A0 ?_
   refine BD ?_
   try refine A0 ?_
   refine A1 (AA rfl rfl rfl rfl rfl (AE rfl rfl rfl rfl rfl .nil)) ?_
   try refine A0 ?_
   exact A7 (PP l g z) (enR g) rfl (.tmp (kn rfl) (.nil)) (Imp.refl _) ⟨s_b,s_b,s_b,trivial⟩ ⟨rfl,trivial⟩ (.inl ⟨a,b,z,g,by rw[hw,he],rfl,rfl,rfl⟩)
  rw[ho]at hw
  dsimp only at hw
  obtain⟨hv1,hv2,hv3⟩:=SR ho
  refine AG ?_
  refine A6 ?_
  try refine A0 ?_
  refine A1 (AA rfl rfl rfl rfl rfl (A5 rfl rfl rfl (AQ rfl (kn rfl) ifc_28) .nil)) ?_
  try refine A0 ?_
  refine C1 ?_
  try refine A0 ?_
  refine A1 (AA rfl rfl rfl rfl rfl (A5 rfl rfl rfl (AN rfl (kn rfl) (kn rfl) (BF (by first | omega | (dsimp only;omega)))) (AE rfl rfl rfl rfl rfl .nil))) ?_
  try refine A0 ?_
  refine BB ⟨(n,y,k+1,r),by omega,by dsimp only;omega,by dsimp only;omega,by dsimp only;omega,by have:x.vals.length<=q:=hbd;show y.vals.length<=r;omega,hw⟩ (by dsimp only;omega) (fun K=>B8 ⟨s_t,s_t,s_t,s_t,trivial⟩ ⟨s_b,s_b,s_b,trivial⟩ ⟨rfl,trivial⟩)
end Go.Proofs.YtgcphgdkddihcaaGreatDoor
