/- Part 26. Conditions: as each theorem says. -/
import Derived.Test.YtgcphgdkddihcaaGreatDoorSR25
import Derived.Test.YtgcphgdkddihcaaGreatDoorProg
set_option maxRecDepth 100000
namespace Go.Proofs.YtgcphgdkddihcaaGreatDoor
open Go.RowKit
theorem NC{l:List Tk}{p k:Nat}{s t:List UInt8}(h:tkIs l p k s=true)(hs:s≠[])(ht:t≠[])(hne:s≠t):tkIs l p k t=false:=by
 unfold tkIs at h ⊢
 cases hx:l[p]? with
 | none=>rfl
 | some x=>
  rw[hx]at h
  simp only[Bool.and_eq_true,decide_eq_true_eq,Bool.or_eq_true]at h
  obtain⟨h1,h2⟩:=h
  have h3:x.1.t=s:=h2.resolve_left hs
  have h4:¬ x.1.t=t:=fun e=>hne (h3.symm.trans e)
  simp[ht,h4]
theorem V4{l:List Tk}{p k:Nat}{s:List UInt8}(h:tkIs l p k s=true):(tkAt l p).1.k=k:=by
 have hlt:=B7 h
 unfold tkIs at h
 rw[IN hlt]at h
 simp only[Bool.and_eq_true,decide_eq_true_eq]at h
 exact h.1
theorem ON(l:List Tk)(x:Tk):∀ (d n m:Nat) (vs:List Val) (p:Nat),l.length+1-p<=d->p<=l.length->l.length+1<=n+p->l.length+1<=m+p ->
  (match HH l n vs p with | .error e=>(.error e:AZ (Enm×Nat)) | .ok (us,r)=>.ok (⟨x.1.t,us,x.2.1,x.2.2⟩,r))=K0 l 1 (CQ l) m ⟨x.1.t,vs,x.2.1,x.2.2⟩ vs.length p
 | 0,_,_,_,p,hd,hp,_,_=>by omega
 | d+1,0,_,_,p,hd,hp,hn,_=>by omega
 | d+1,_,0,_,p,hd,hp,_,hm=>by omega
 | d+1,n+1,m+1,vs,p,hd,hp,hn,hm=>by
  by_cases hs:tkIs l p 4 [59]=true
  ·have hlt:=B7 hs
   have hc:=NC (t:=[125]) hs (by simp) (by simp) (by decide)
   have ih:=ON l x d (n+1) m vs (p+1) (by omega) (by omega) (by omega) (by omega)
   rw[K0,hc,hs]
   simp only[Bool.not_false,Bool.or_true,Bool.not_true,Bool.false_eq_true,if_false,if_true]
   rw[<- ih]
   rw[HH,HH,MK hs]
  ·have hs':tkIs l p 4 [59]=false:=by simpa using hs
   rw[HH,K0,MA hs',hs']
   by_cases hc:tkIs l p 4 [125]=true
   ·rw[hc]
    cases vs with
    | nil=>
     have h1:DF l p=.error (p,9):=DY (by rw[V4 hc];decide)
     simp[CQ,EA,h1,D1]
    | cons v vs=>simp
   ·have hc':tkIs l p 4 [125]=false:=by simpa using hc
    rw[hc']
    simp only[Bool.not_false,Bool.or_true,Bool.not_true,Bool.false_eq_true,if_false]
    cases hv:EA l p with
    | error e=>simp only[CQ,hv]
    | ok y=>
     obtain⟨v,q⟩:=y
     have hq:=LD hv
     simp only[CQ,hv]
     rcases Nat.eq_zero_or_pos n with h0 | h0
     ·omega
     ·have ih:=ON l x d n m (vs++[v]) q (by omega) (by omega) (by omega) (by omega)
      rw[List.length_append]at ih
      exact ih
theorem GU(l:List Tk)(p:Nat):FK l p=match DF l p with
 | .error e=>.error e
 | .ok (x,q)=>E5 l 1 (CQ l) ⟨x.1.t,[],x.2.1,x.2.2⟩ q:=by
 unfold FK KM E5
 cases hx:DF l p with
 | error e=>rfl
 | ok x=>
  obtain⟨x,q⟩:=x
  dsimp only
  cases hw:BK l 4 [123] q with
  | error e=>rfl
  | ok r=>
   dsimp only
   have hr:=BA hw
   exact ON l x _ (l.length+1) (l.length+1) [] r (Nat.le_refl _) (by omega) (by omega) (by omega)
def N8(m:Msg)(r:AZ (Enm×Nat)):AZ (Msg×Nat):=
 match r with
 | .error e=>.error e
 | .ok (g,q)=>.ok (m.addEnum g,q)
abbrev flX(f:Fil):Bx:=⟨42,[.is (.string (str f.package)),.own 400,.own 401]⟩
abbrev flR(f:Fil):RL:=[(400,⟨204,9,f.msgs.length,f.msgs.flatMap Msg.dats,false⟩),(401,⟨200,4,f.enums.length,f.enums.flatMap Enm.dats,false⟩)]
abbrev flB(l:List Tk)(f:Fil)(q:Nat):BL:=[(1,pX l q),(7,flX f)]
abbrev LE(l:List Tk)(E8 E9:Er)(r:AZ (Fil×Nat))(y:IV)(B1:BL)(R1:RL):Prop:=ME l E8 E9 (flB l) flR r y B1 R1
theorem LE.tidy{l:List Tk}{E8 E9:Er}{r:AZ (Fil×Nat)}{m:Fil}{q:Nat}(y:IV)(B1:BL)(R1:RL)(h:LE l E8 E9 r y B1 R1):H0 (flB l m q) (flR m) y B1 R1:=by
 rcases h with⟨a,b,z,x,_,rfl,rfl,rfl⟩ | ⟨x,z,_,rfl,rfl,rfl⟩<;>exact⟨rfl,rfl,rfl,rfl⟩
def I2(f:Fil)(r:AZ (Enm×Nat)):AZ (Fil×Nat):=
 match r with
 | .error e=>.error e
 | .ok (g,q)=>.ok ({ f with enums:=f.enums++[g] },q)
set_option maxHeartbeats 1000000 in
theorem Q5t(E8 E9:Er)(l:List Tk)(hl:PTk l)(m:Msg)(hm:Small m 100000000000)(p:Nat)(hp:p<=100000):EG Tryz.prog (gE E8 E9) 132 [.box 1 0,.box 3 4] (mS l m p) (pmR m) (NE l E8 E9 (N8 m (FK l p))):=by
 obtain⟨nm,fs,os,ms,es,rs,ns,ln,cl⟩:=m
 have hm1:(Msg.mk nm fs os ms es rs ns ln cl).enums.length<=100000000000:=hm.2.2.2.1
 refine B4 37 Tryz.func132 rfl rfl rfl fun w D bor mb=>?_
 try refine A0 ?_
 have hll:=hl.len
 refine A8 ?_
 refine IQ 4 rfl rfl rfl rfl (kn rfl) rfl rfl rfl rfl rfl ?_
 refine AG ?_
 refine A6 ?_
 try refine A0 ?_
 refine A8 ?_
 refine AB (A4 rfl (kn rfl) rfl rfl one_183) ?_
 refine AH rfl rfl rfl rfl (by kernel_rfl) (DB E8 E9 l hl.toTksOk (p) 1 (by omega)) ⟨rfl,trivial⟩ trivial ⟨(kn rfl),⟨(kn rfl),trivial⟩⟩ (TY.tidy) ?_
 rintro _ _ _ (⟨hk,rfl,rfl,rfl⟩ | ⟨hk,rfl,rfl,rfl⟩)
 ·refine AJ ?_
  refine B3 ?_
  refine B3 ?_
  refine AS 5 [.is (.int .i64 0),.is (.string ⟨#[]⟩),.is (.int .i64 0),.is (.int .i64 0),.is (.int .i64 0)] rfl rfl rfl rfl zr_128 (fun w D M V=>⟨rfl,fun j x v h1 h2=>AR _ h1 h2 rfl⟩) rfl rfl rfl rfl ?_
  refine AI rfl rfl rfl (kn rfl) rfl (kn rfl) rfl rfl sz_128 ?_
  refine AG ?_
  refine A6 ?_
  try refine A0 ?_
  refine A1 (AA rfl rfl rfl rfl rfl (A5 rfl rfl rfl (AP rfl (kn rfl) rfl ifc_28) .nil)) ?_
  try refine A0 ?_
  refine BD ?_
  try refine A0 ?_
  refine A1 (AA rfl rfl rfl rfl rfl (AE rfl rfl rfl rfl rfl .nil)) ?_
  try refine A0 ?_
  exact A7 (mS l (Msg.mk nm fs os ms es rs ns ln cl) p) (pmR (Msg.mk nm fs os ms es rs ns ln cl)) rfl (.tmp (kn rfl) (.nil)) (Imp.refl _) ⟨s_b,s_b,trivial⟩ ⟨rfl,rfl,rfl,rfl,rfl,rfl,trivial⟩ (.inl ⟨p,9,p,_,by simp only[N8,GU,DY hk],rfl,rfl,rfl⟩)
 refine AJ ?_
 refine B3 ?_
 refine B3 ?_
 refine AS 5 [.is (.int .i64 0),.is (.string ⟨#[]⟩),.is (.int .i64 0),.is (.int .i64 0),.is (.int .i64 0)] rfl rfl rfl rfl zr_128 (fun w D M V=>⟨rfl,fun j x v h1 h2=>AR _ h1 h2 rfl⟩) rfl rfl rfl rfl ?_
 refine AI rfl rfl rfl (kn rfl) rfl (kn rfl) rfl rfl sz_128 ?_
 refine AG ?_
 refine A6 ?_
 try refine A0 ?_
 refine A1 (AA rfl rfl rfl rfl rfl (A5 rfl rfl rfl (AQ rfl (kn rfl) ifc_28) .nil)) ?_
 try refine A0 ?_
 refine C1 ?_
 try refine A0 ?_
 obtain⟨hlt0,hx⟩:=G4 hk
 refine A8 ?_
 refine AB (A3 rfl (kn rfl) off_128_1) ?_
 refine AB (A4 rfl (kn rfl) rfl rfl one_9) ?_
 refine AB (A3 rfl (kn rfl) off_128_3) ?_
 refine AB (A4 rfl (kn rfl) rfl rfl one_3) ?_
 refine AB (A3 rfl (kn rfl) off_128_4) ?_
 refine AB (A4 rfl (kn rfl) rfl rfl one_3) ?_
 refine AB (B9 (ds:=[_,_,_,_]) [(0,_),(2,_),(3,_)] rfl ⟨rfl,(kn rfl),⟨rfl,(kn rfl),⟨rfl,(kn rfl),trivial⟩⟩⟩ rfl pl_200 zr_200 (fun w D=>.cons (.cell _) (.cons (.cell _) (.cons (.cell _) (.cons (.cell _) (.nil _ _))))) rfl) ?_
 refine AS 6 [.is (.string ⟨#[]⟩),.is (.slice none 0 0),.is (.int .i64 0),.is (.int .i64 0)] rfl rfl rfl rfl zr_200 (fun w D M V=>⟨rfl,fun j x v h1 h2=>AR _ h1 h2 rfl⟩) rfl rfl rfl rfl ?_
 refine AI rfl rfl rfl (kn rfl) rfl (kn rfl) rfl rfl sz_200 ?_
 refine A6 ?_
 try refine A0 ?_
 refine BI 6 1 300 206 4 rfl rfl rfl rfl rfl ?_
 refine A8 ?_
 refine AB (A4 rfl (kn rfl) rfl rfl one_183) ?_
 refine AB (HM (fs:=[]) (cs:=[.box 4 0,.box 6 0]) rfl trivial ⟨(kn rfl),(kn rfl),trivial⟩) ?_
 refine AH rfl rfl rfl rfl (by kernel_rfl) (Q7J E8 E9 l hl ⟨(tkAt l p).1.t,[],(tkAt l p).2.1,(tkAt l p).2.2⟩ (p+1) (by omega) (fun q _=>Nat.zero_le q)) ⟨rfl,rfl,rfl,trivial⟩ ⟨rfl,trivial⟩ ⟨(kn rfl),⟨(kn rfl),⟨(kn rfl),trivial⟩⟩⟩ (VE4.tidy) ?_
 rintro _ _ _ (⟨a,b,z,g,he,rfl,rfl,rfl⟩ | ⟨g,z,ho,rfl,rfl,rfl⟩)
 ·refine AG ?_
  refine A6 ?_
  try refine A0 ?_
  refine A1 (AA rfl rfl rfl rfl rfl (A5 rfl rfl rfl (AP rfl (kn rfl) rfl ifc_28) .nil)) ?_
  try refine A0 ?_
  refine BD ?_
  try refine A0 ?_
  refine A1 (AA rfl rfl rfl rfl rfl (AE rfl rfl rfl rfl rfl .nil)) ?_
  try refine A0 ?_
  exact A7 (mS l (Msg.mk nm fs os ms es rs ns ln cl) z) (pmR (Msg.mk nm fs os ms es rs ns ln cl)) rfl (.tmp (kn rfl) (.nil)) (Imp.refl _) ⟨s_b,s_b,trivial⟩ ⟨rfl,rfl,rfl,rfl,rfl,rfl,trivial⟩ (.inl ⟨a,b,z,_,by simp only[N8,GU,hx,he],rfl,rfl,rfl⟩)
 refine AG ?_
 refine A6 ?_
 try refine A0 ?_
 refine A1 (AA rfl rfl rfl rfl rfl (A5 rfl rfl rfl (AQ rfl (kn rfl) ifc_28) .nil)) ?_
 try refine A0 ?_
 refine C1 ?_
 try refine A0 ?_
 refine BC 6 1 300 rfl rfl rfl rfl rfl ?_
 refine CD 6 mixed (by kernel_rfl) rfl rfl rfl rfl (kn rfl) (fun _ _ _ _ h=>h) (AA rfl rfl rfl rfl rfl (A5 rfl rfl rfl (AL rfl (kn rfl)) (A5 rfl rfl rfl (A4 rfl (kn rfl) rfl rfl one_40) (A5 rfl rfl rfl (AT (ds:=[_,_,_,_]) 4 rfl (kn rfl) rfl rfl agg_200 sz_200 rfl) (A5 rfl rfl rfl (AC (ds:=[_,_,_,_]) [(0,_)] rfl ⟨rfl,(kn rfl),trivial⟩ rfl sl_40 sz_200 zr_200 (fun w D=>.cons (.cell _) (.cons (.cell _) (.cons (.cell _) (.cons (.cell _) (.nil _ _))))) rfl rfl rfl rfl rfl) .nil))))) ?_
 refine BV rfl rfl rfl rfl (kn rfl) rfl (kn rfl) sl_40 ap_40 rfl rfl (by first | omega | (dsimp only;omega)) (by first | omega | (dsimp only;omega)) ?_
 refine AB (AL rfl (kn rfl)) ?_
 refine B6 rfl rfl rfl (kn rfl) rfl (kn rfl) rfl rfl sz_40 rfl ?_
 refine A6 ?_
 try refine A0 ?_
 refine A1 (AE rfl rfl rfl rfl rfl .nil) ?_
 try refine A0 ?_
 exact A7 (mS l ((Msg.mk nm fs os ms es rs ns ln cl).addEnum g) z) (pmR ((Msg.mk nm fs os ms es rs ns ln cl).addEnum g)) rfl (.tmp (kn rfl) (.nil)) (Imp.refl _) ⟨s_b,s_b,trivial⟩ ⟨rfl,rfl,rfl,E4 rfl (by simp[Msg.addEnum,Msg.enums]) (by simp[Msg.addEnum,Msg.enums,List.flatMap_append,Enm.dats]),rfl,rfl,trivial⟩ (.inr ⟨(Msg.mk nm fs os ms es rs ns ln cl).addEnum g,z,by simp only[N8,GU,hx,ho],rfl,rfl,rfl⟩)
set_option maxHeartbeats 1000000 in
theorem Q6w(E8 E9:Er)(l:List Tk)(hl:PTk l)(m:Fil)(hm:m.enums.length<=100000000000)(p:Nat)(hp:p<=100000):EG Tryz.prog (gE E8 E9) 132 [.box 1 0,.box 7 2] (flB l m p) (flR m) (LE l E8 E9 (I2 m (FK l p))):=by
 refine B4 37 Tryz.func132 rfl rfl rfl fun w D bor mb=>?_
 try refine A0 ?_
 have hll:=hl.len
 refine A8 ?_
 refine IQ 4 rfl rfl rfl rfl (kn rfl) rfl rfl rfl rfl rfl ?_
 refine AG ?_
 refine A6 ?_
 try refine A0 ?_
 refine A8 ?_
 refine AB (A4 rfl (kn rfl) rfl rfl one_183) ?_
 refine AH rfl rfl rfl rfl (by kernel_rfl) (DB E8 E9 l hl.toTksOk (p) 1 (by omega)) ⟨rfl,trivial⟩ trivial ⟨(kn rfl),⟨(kn rfl),trivial⟩⟩ (TY.tidy) ?_
 rintro _ _ _ (⟨hk,rfl,rfl,rfl⟩ | ⟨hk,rfl,rfl,rfl⟩)
 ·refine AJ ?_
  refine B3 ?_
  refine B3 ?_
  refine AS 5 [.is (.int .i64 0),.is (.string ⟨#[]⟩),.is (.int .i64 0),.is (.int .i64 0),.is (.int .i64 0)] rfl rfl rfl rfl zr_128 (fun w D M V=>⟨rfl,fun j x v h1 h2=>AR _ h1 h2 rfl⟩) rfl rfl rfl rfl ?_
  refine AI rfl rfl rfl (kn rfl) rfl (kn rfl) rfl rfl sz_128 ?_
  refine AG ?_
  refine A6 ?_
  try refine A0 ?_
  refine A1 (AA rfl rfl rfl rfl rfl (A5 rfl rfl rfl (AP rfl (kn rfl) rfl ifc_28) .nil)) ?_
  try refine A0 ?_
  refine BD ?_
  try refine A0 ?_
  refine A1 (AA rfl rfl rfl rfl rfl (AE rfl rfl rfl rfl rfl .nil)) ?_
  try refine A0 ?_
  exact A7 (flB l (m) p) (flR (m)) rfl (.tmp (kn rfl) (.nil)) (Imp.refl _) ⟨s_b,s_b,trivial⟩ ⟨rfl,rfl,trivial⟩ (.inl ⟨p,9,p,_,by simp only[I2,GU,DY hk],rfl,rfl,rfl⟩)
 refine AJ ?_
 refine B3 ?_
 refine B3 ?_
 refine AS 5 [.is (.int .i64 0),.is (.string ⟨#[]⟩),.is (.int .i64 0),.is (.int .i64 0),.is (.int .i64 0)] rfl rfl rfl rfl zr_128 (fun w D M V=>⟨rfl,fun j x v h1 h2=>AR _ h1 h2 rfl⟩) rfl rfl rfl rfl ?_
 refine AI rfl rfl rfl (kn rfl) rfl (kn rfl) rfl rfl sz_128 ?_
 refine AG ?_
 refine A6 ?_
 try refine A0 ?_
 refine A1 (AA rfl rfl rfl rfl rfl (A5 rfl rfl rfl (AQ rfl (kn rfl) ifc_28) .nil)) ?_
 try refine A0 ?_
 refine C1 ?_
 try refine A0 ?_
 obtain⟨hlt0,hx⟩:=G4 hk
 refine A8 ?_
 refine AB (A3 rfl (kn rfl) off_128_1) ?_
 refine AB (A4 rfl (kn rfl) rfl rfl one_9) ?_
 refine AB (A3 rfl (kn rfl) off_128_3) ?_
 refine AB (A4 rfl (kn rfl) rfl rfl one_3) ?_
 refine AB (A3 rfl (kn rfl) off_128_4) ?_
 refine AB (A4 rfl (kn rfl) rfl rfl one_3) ?_
 refine AB (B9 (ds:=[_,_,_,_]) [(0,_),(2,_),(3,_)] rfl ⟨rfl,(kn rfl),⟨rfl,(kn rfl),⟨rfl,(kn rfl),trivial⟩⟩⟩ rfl pl_200 zr_200 (fun w D=>.cons (.cell _) (.cons (.cell _) (.cons (.cell _) (.cons (.cell _) (.nil _ _))))) rfl) ?_
 refine AS 6 [.is (.string ⟨#[]⟩),.is (.slice none 0 0),.is (.int .i64 0),.is (.int .i64 0)] rfl rfl rfl rfl zr_200 (fun w D M V=>⟨rfl,fun j x v h1 h2=>AR _ h1 h2 rfl⟩) rfl rfl rfl rfl ?_
 refine AI rfl rfl rfl (kn rfl) rfl (kn rfl) rfl rfl sz_200 ?_
 refine A6 ?_
 try refine A0 ?_
 refine BI 6 1 300 206 4 rfl rfl rfl rfl rfl ?_
 refine A8 ?_
 refine AB (A4 rfl (kn rfl) rfl rfl one_183) ?_
 refine AB (HM (fs:=[]) (cs:=[.box 4 0,.box 6 0]) rfl trivial ⟨(kn rfl),(kn rfl),trivial⟩) ?_
 refine AH rfl rfl rfl rfl (by kernel_rfl) (Q7J E8 E9 l hl ⟨(tkAt l p).1.t,[],(tkAt l p).2.1,(tkAt l p).2.2⟩ (p+1) (by omega) (fun q _=>Nat.zero_le q)) ⟨rfl,rfl,rfl,trivial⟩ ⟨rfl,trivial⟩ ⟨(kn rfl),⟨(kn rfl),⟨(kn rfl),trivial⟩⟩⟩ (VE4.tidy) ?_
 rintro _ _ _ (⟨a,b,z,g,he,rfl,rfl,rfl⟩ | ⟨g,z,ho,rfl,rfl,rfl⟩)
 ·refine AG ?_
  refine A6 ?_
  try refine A0 ?_
  refine A1 (AA rfl rfl rfl rfl rfl (A5 rfl rfl rfl (AP rfl (kn rfl) rfl ifc_28) .nil)) ?_
  try refine A0 ?_
  refine BD ?_
  try refine A0 ?_
  refine A1 (AA rfl rfl rfl rfl rfl (AE rfl rfl rfl rfl rfl .nil)) ?_
  try refine A0 ?_
  exact A7 (flB l (m) z) (flR (m)) rfl (.tmp (kn rfl) (.nil)) (Imp.refl _) ⟨s_b,s_b,trivial⟩ ⟨rfl,rfl,trivial⟩ (.inl ⟨a,b,z,_,by simp only[I2,GU,hx,he],rfl,rfl,rfl⟩)
 refine AG ?_
 refine A6 ?_
 try refine A0 ?_
 refine A1 (AA rfl rfl rfl rfl rfl (A5 rfl rfl rfl (AQ rfl (kn rfl) ifc_28) .nil)) ?_
 try refine A0 ?_
 refine C1 ?_
 try refine A0 ?_
 refine BC 6 1 300 rfl rfl rfl rfl rfl ?_
 refine CD 6 mixed (by kernel_rfl) rfl rfl rfl rfl (kn rfl) (fun _ _ _ _ h=>h) (AA rfl rfl rfl rfl rfl (A5 rfl rfl rfl (AL rfl (kn rfl)) (A5 rfl rfl rfl (A4 rfl (kn rfl) rfl rfl one_40) (A5 rfl rfl rfl (AT (ds:=[_,_,_,_]) 4 rfl (kn rfl) rfl rfl agg_200 sz_200 rfl) (A5 rfl rfl rfl (AC (ds:=[_,_,_,_]) [(0,_)] rfl ⟨rfl,(kn rfl),trivial⟩ rfl sl_40 sz_200 zr_200 (fun w D=>.cons (.cell _) (.cons (.cell _) (.cons (.cell _) (.cons (.cell _) (.nil _ _))))) rfl rfl rfl rfl rfl) .nil))))) ?_
 refine BV rfl rfl rfl rfl (kn rfl) rfl (kn rfl) sl_40 ap_40 rfl rfl (by first | omega | (dsimp only;omega)) (by first | omega | (dsimp only;omega)) ?_
 refine AB (AL rfl (kn rfl)) ?_
 refine B6 rfl rfl rfl (kn rfl) rfl (kn rfl) rfl rfl sz_40 rfl ?_
 refine A6 ?_
 try refine A0 ?_
 refine A1 (AE rfl rfl rfl rfl rfl .nil) ?_
 try refine A0 ?_
 exact A7 (flB l ({ m with enums:=m.enums++[g] }) z) (flR ({ m with enums:=m.enums++[g] })) rfl (.tmp (kn rfl) (.nil)) (Imp.refl _) ⟨s_b,s_b,trivial⟩ ⟨rfl,E4 rfl (by simp) (by simp[List.flatMap_append,Enm.dats]),trivial⟩ (.inr ⟨{ m with enums:=m.enums++[g] },z,by simp only[I2,GU,hx,ho],rfl,rfl,rfl⟩)
def TT(l:List Tk):AZ Nat:=
 match EK l [GN,[61]] 0 with
 | .error e=>.error e
 | .ok q=>
  match I1 l q with
  | .error e=>.error e
  | .ok (t,r)=>if t=PV then BK l 4 [59] r else D1 q
theorem V6{l:List Tk}:∀ {ts:List (List UInt8)} {p q:Nat},p<=l.length->EK l ts p=.ok q->q<=l.length
 | [],p,q,hp,h=>by
  rw[EK]at h
  injection h with h
  omega
 | t::ts,p,q,hp,h=>by
  rw[EK]at h
  split at h
  ·cases h
  ·rename_i r hr
   have:=BA hr
   exact V6 (by omega) h
theorem Q3Z(E8 E9:Er)(l:List Tk)(hl:PTk l):EG Tryz.prog (gE E8 E9) 75 [.box 1 0] (pB l 0) [] (PE l E8 E9 (TT l)):=by
 refine B4 29 Tryz.func75 rfl rfl rfl fun w D bor mb=>?_
 try refine A0 ?_
 have hll:=hl.len
 refine A1 (AE rfl rfl rfl rfl rfl .nil) ?_
 try refine A0 ?_
 refine A8 ?_
 refine AJ ?_
 refine AB (AC (ds:=[_,_]) [(0,_),(1,_)] rfl ⟨rfl,(kn rfl),⟨rfl,(kn rfl),trivial⟩⟩ rfl sl_54 sz_9 zr_9 (fun w D=>.cons (.cell _) (.cons (.cell _) (.nil _ _))) rfl rfl rfl rfl rfl) ?_
 refine AH rfl rfl rfl rfl (by kernel_rfl) (Q48 E8 E9 l hl [GN,[61]] (by simp) (by decide) 0 (by omega)) ⟨rfl,trivial⟩ trivial ⟨(kn rfl),⟨(kn rfl),trivial⟩⟩ (PE.tidy) ?_
 rintro _ _ _ (⟨a,b,z,he,rfl,rfl,rfl⟩ | ⟨q,ho,rfl,rfl,rfl⟩)
 ·refine AG ?_
  refine A6 ?_
  try refine A0 ?_
  refine A1 (AA rfl rfl rfl rfl rfl (A5 rfl rfl rfl (AP rfl (kn rfl) rfl ifc_28) .nil)) ?_
  try refine A0 ?_
  refine BD ?_
  try refine A0 ?_
  refine A1 (AA rfl rfl rfl rfl rfl (AE rfl rfl rfl rfl rfl .nil)) ?_
  try refine A0 ?_
  exact A7 (pB l z) ([]) rfl (.tmp (kn rfl) (.nil)) (Imp.refl _) ⟨s_b,trivial⟩ trivial (.inl ⟨a,b,z,by simp only[TT,he],rfl,rfl,rfl⟩)
 refine AG ?_
 refine A6 ?_
 try refine A0 ?_
 refine A1 (AA rfl rfl rfl rfl rfl (A5 rfl rfl rfl (AQ rfl (kn rfl) ifc_28) .nil)) ?_
 try refine A0 ?_
 refine C1 ?_
 try refine A0 ?_
 have hq:=V6 (Nat.zero_le _) ho
 refine A8 ?_
 refine AJ ?_
 refine AH rfl rfl rfl rfl (by kernel_rfl) (DB E8 E9 l hl.toTksOk (q) 3 (by omega)) ⟨rfl,trivial⟩ trivial ⟨(kn rfl),⟨(kn rfl),trivial⟩⟩ (TY.tidy) ?_
 rintro _ _ _ (⟨hk,rfl,rfl,rfl⟩ | ⟨hk,rfl,rfl,rfl⟩)
 ·refine AJ ?_
  refine B3 ?_
  refine B3 ?_
  refine AS 4 [.is (.int .i64 0),.is (.string ⟨#[]⟩),.is (.int .i64 0),.is (.int .i64 0),.is (.int .i64 0)] rfl rfl rfl rfl zr_128 (fun w D M V=>⟨rfl,fun j x v h1 h2=>AR _ h1 h2 rfl⟩) rfl rfl rfl rfl ?_
  refine AI rfl rfl rfl (kn rfl) rfl (kn rfl) rfl rfl sz_128 ?_
  refine AG ?_
  refine A6 ?_
  try refine A0 ?_
  refine A1 (AA rfl rfl rfl rfl rfl (A5 rfl rfl rfl (AP rfl (kn rfl) rfl ifc_28) .nil)) ?_
  try refine A0 ?_
  refine BD ?_
  try refine A0 ?_
  refine A1 (AA rfl rfl rfl rfl rfl (AE rfl rfl rfl rfl rfl .nil)) ?_
  try refine A0 ?_
  exact A7 (pB l q) ([]) rfl (.tmp (kn rfl) (.nil)) (Imp.refl _) ⟨s_b,trivial⟩ trivial (.inl ⟨q,9,q,by simp only[TT,ho,XA hk],rfl,rfl,rfl⟩)
 refine AJ ?_
 refine B3 ?_
 refine B3 ?_
 refine AS 4 [.is (.int .i64 0),.is (.string ⟨#[]⟩),.is (.int .i64 0),.is (.int .i64 0),.is (.int .i64 0)] rfl rfl rfl rfl zr_128 (fun w D M V=>⟨rfl,fun j x v h1 h2=>AR _ h1 h2 rfl⟩) rfl rfl rfl rfl ?_
 refine AI rfl rfl rfl (kn rfl) rfl (kn rfl) rfl rfl sz_128 ?_
 refine AG ?_
 refine A6 ?_
 try refine A0 ?_
 refine A1 (AA rfl rfl rfl rfl rfl (A5 rfl rfl rfl (AQ rfl (kn rfl) ifc_28) .nil)) ?_
 try refine A0 ?_
 refine C1 ?_
 try refine A0 ?_
 obtain⟨hlt,hx⟩:=Q1u hk
 refine A1 (A5 rfl rfl rfl (A3 rfl (kn rfl) off_128_1) (A5 rfl rfl rfl (A4 rfl (kn rfl) rfl rfl one_9) (A5 rfl rfl rfl (AN rfl (kn rfl) (kn rfl) (RT (b:=[112,114,111,116,111,51]))) .nil))) ?_
 try refine A0 ?_
 refine AO rfl (fun h=>?_) (fun h=>?_)
 ·have h1:¬ (tkAt l q).1.t=PV:=of_decide_eq_false (J0 h)
  try refine A0 ?_
  refine A1 (A5 rfl rfl rfl (AT (ds:=[_,_,_,_,_]) 5 rfl (kn rfl) rfl rfl agg_128 sz_128 rfl) (A5 rfl rfl rfl (C4 rfl (kn rfl) (List.mem_cons_of_mem _ (List.mem_singleton.2 rfl)) one_28) (A5 rfl rfl rfl (AY rfl (by kernel_rfl) (NV _ l q E9) ⟨(kn rfl),⟨(kn rfl),trivial⟩⟩) (AE rfl rfl rfl rfl rfl .nil)))) ?_
  try refine A0 ?_
  exact A7 (pB l (q+1)) ([]) rfl (.tmp (kn rfl) (.nil)) (Imp.refl _) ⟨s_b,trivial⟩ trivial (.inl ⟨q,9,q+1,by simp only[TT,ho,hx,if_neg h1];rfl,rfl,rfl,rfl⟩)
 have h1:(tkAt l q).1.t=PV:=of_decide_eq_true (IB h)
 have hw:TT l=BK l 4 [59] (q+1):=by simp only[TT,ho,hx,if_pos h1]
 try refine A0 ?_
 refine A8 ?_
 refine AJ ?_
 refine AB (AC (ds:=[_]) [(0,_)] rfl ⟨rfl,(kn rfl),trivial⟩ rfl sl_54 sz_9 zr_9 (fun w D=>.cons (.cell _) (.nil _ _)) rfl rfl rfl rfl rfl) ?_
 refine AH rfl rfl rfl rfl (by kernel_rfl) (D4 E8 E9 l hl 4 [59] rfl (by decide) (q+1) (by omega)) ⟨rfl,trivial⟩ trivial ⟨(kn rfl),⟨(kn rfl),trivial⟩⟩ (PE.tidy) ?_
 rintro _ _ _ (⟨a,b,z,he,rfl,rfl,rfl⟩ | ⟨z,hz,rfl,rfl,rfl⟩)
 ·refine AG ?_
  refine A6 ?_
  try refine A0 ?_
  exact A7 (pB l z) ([]) rfl (.tmp (kn rfl) (.nil)) (Imp.refl _) ⟨s_b,trivial⟩ trivial (.inl ⟨a,b,z,hw.trans he,rfl,rfl,rfl⟩)
 ·refine AG ?_
  refine A6 ?_
  try refine A0 ?_
  exact A7 (pB l z) ([]) rfl (.tmp (kn rfl) (.nil)) (Imp.refl _) ⟨s_b,trivial⟩ trivial (.inr ⟨z,hw.trans hz,rfl,rfl,rfl⟩)
theorem UQ{l:List Tk}:∀ (n:Nat) (vs:List Val) (p:Nat) {ws:List Val} {q:Nat},p<=l.length->HH l n vs p=.ok (ws,q)->ws.length+p<=vs.length+q
 | 0,vs,p,ws,q,hp,h=>by cases h
 | n+1,vs,p,ws,q,hp,h=>by
  have hs:=G9 hp
  simp only[HH]at h
  split at h
  ·rename_i h1
   have:=B7 h1
   split at h
   ·cases h
   ·injection h with h
    injection h with h2 h3
    subst h2
    omega
  split at h
  ·cases h
  rename_i v r hv
  have h1:=LD hv
  have:=UQ n _ _ (by omega) h
  rw[List.length_append]at this
  simp only[List.length_cons,List.length_nil]at this
  omega
theorem RI{l:List Tk}(hl:l.length<=100000){p q:Nat}{x:Enm}(h:FK l p=.ok (x,q)):x.fine:=by
 unfold FK at h
 split at h
 ·cases h
 rename_i y r hx
 split at h
 ·cases h
 rename_i vs s hs
 have h1:=MY hx
 have h2:=S2 _ _ _ h1.2 hs
 have h3:=UQ _ _ _ h1.2 hs
 injection h with h
 injection h with h4 h5
 subst h4
 show vs.length<=_
 simp only[List.length_nil]at h3
 omega
theorem UZ{l:List Tk}{a:Int}:∀ (n:Nat) (vs:List Fld) (p:Nat) {ws:List Fld} {q:Nat},p<=l.length->GL l a n vs p=.ok (ws,q)->ws.length+p<=vs.length+q
 | 0,vs,p,ws,q,hp,h=>by cases h
 | n+1,vs,p,ws,q,hp,h=>by
  have hs:=G9 hp
  simp only[GL]at h
  split at h
  ·rename_i h1
   have:=B7 h1
   split at h
   ·cases h
   ·injection h with h
    injection h with h2 h3
    subst h2
    omega
  split at h
  ·cases h
  rename_i v r hv
  have h1:=F6 hv
  have:=UZ n _ _ (by omega) h
  rw[List.length_append]at this
  simp only[List.length_cons,List.length_nil]at this
  omega
theorem Q00{l:List Tk}{p q:Nat}{a:Int}{x:List UInt8×List Fld}(h:G1 l p a=.ok (x,q)):x.2.length+p<=q:=by
 unfold G1 at h
 split at h
 ·cases h
 rename_i y r hx
 split at h
 ·cases h
 rename_i vs s hs
 have h1:=MY hx
 have h2:=UZ _ _ _ h1.2 hs
 injection h with h
 injection h with h4 h5
 subst h4
 simp only[List.length_nil]at h2
 dsimp only
 omega
theorem PJ{l:List Tk}:∀ (n:Nat) (s:List (Int×Int)) (p:Nat) {t:List (Int×Int)} {q:Nat},F0 l n s p=.ok (t,q)->t.length+p<=s.length+q
 | 0,s,p,t,q,h=>by cases h
 | n+1,s,p,t,q,h=>by
  unfold F0 at h
  split at h
  ·cases h
  rename_i x r hx
  have h1:=O0 hx
  split at h
  ·have:=PJ n _ _ h
   rw[List.length_append]at this
   simp only[List.length_cons,List.length_nil]at this
   omega
  split at h
  ·cases h
  rename_i u hu
  have h3:=BA hu
  injection h with h
  injection h with h4 h5
  subst h4
  rw[List.length_append]
  simp only[List.length_cons,List.length_nil]
  omega
theorem R5{l:List Tk}:∀ (n:Nat) (s:List (List UInt8)) (p:Nat) {t:List (List UInt8)} {q:Nat},GJ l n s p=.ok (t,q)->t.length+p<=s.length+q
 | 0,s,p,t,q,h=>by cases h
 | n+1,s,p,t,q,h=>by
  unfold GJ at h
  split at h
  ·cases h
  rename_i x r hx
  have h1:=RH hx
  split at h
  ·have:=R5 n _ _ h
   rw[List.length_append]at this
   simp only[List.length_cons,List.length_nil]at this
   omega
  split at h
  ·cases h
  rename_i u hu
  have h3:=BA hu
  injection h with h
  injection h with h4 h5
  subst h4
  rw[List.length_append]
  simp only[List.length_cons,List.length_nil]
  omega
theorem TP{l:List Tk}{p q:Nat}{x:List (Int×Int)×List (List UInt8)}(h:DJ l p=.ok (x,q)):x.1.length+p<=q/\x.2.length+p<=q:=by
 have h0:=ND h
 unfold DJ at h
 split at h
 ·split at h
  ·cases h
  rename_i ts r hr
  have h1:=R5 _ _ _ hr
  injection h with h
  injection h with h4 h5
  subst h4
  simp only[List.length_nil]at h1 ⊢
  omega
 ·split at h
  ·cases h
  rename_i rs r hr
  have h1:=PJ _ _ _ hr
  injection h with h
  injection h with h4 h5
  subst h4
  simp only[List.length_nil]at h1 ⊢
  omega
def FineTo(m:Msg)(z:Nat):Prop:=Small m z/\(∀ x∈m.enums,x.fine) /\ ∀ k∈m.msgs,k.fine
theorem FineTo.fine{m:Msg}{z:Nat}(h:FineTo m z)(hz:z<=100000000000):m.fine:=by
 obtain⟨⟨a1,a2,a3,a4,a5,a6⟩,h2,h3⟩:=h
 exact(Msg.fine_iff m).2 ⟨by omega,by omega,by omega,by omega,by omega,by omega,h2,h3⟩
theorem LR{l:List Tk}(hl:l.length<=100000){sub:Nat->AZ (Msg×Nat)}(hst:Steps l sub)(hsub:∀ p x q,sub p=.ok (x,q)->x.fine){m m':Msg}{p q z:Nat}(hm:FineTo m z)(h:CN l sub m p=.ok (m',q)):FineTo m' (z+(q-p)):=by
 obtain⟨nm,fs,os,ms,es,rs,ns,ln,cl⟩:=m
 obtain⟨⟨a1,a2,a3,a4,a5,a6⟩,b1,b2⟩:=hm
 have hpq:=FR hst h
 simp only[Msg.fields,Msg.oneofs,Msg.msgs,Msg.enums,Msg.reserved,Msg.names]at a1 a2 a3 a4 a5 a6 b1 b2
 simp only[CN]at h
 split at h
 ·split at h
  ·cases h
  rename_i k r hr
  have h1:=hsub _ _ _ hr
  injection h with h
  injection h with h4 h5
  subst h4 h5
  refine⟨⟨?_,?_,?_,?_,?_,?_⟩,b1,?_⟩<;>simp only[Msg.addMsg,Msg.fields,Msg.oneofs,Msg.msgs,Msg.enums,Msg.reserved,Msg.names,List.length_append,List.length_cons,List.length_nil]<;>try omega
  intro k' hk
  rcases List.mem_append.1 hk with hk | hk
  ·exact b2 k' hk
  ·rw[List.mem_singleton.1 hk]
   exact h1
 split at h
 ·split at h
  ·cases h
  rename_i k r hr
  have h1:=RI hl hr
  injection h with h
  injection h with h4 h5
  subst h4 h5
  refine⟨⟨?_,?_,?_,?_,?_,?_⟩,?_,b2⟩<;>simp only[Msg.addEnum,Msg.fields,Msg.oneofs,Msg.msgs,Msg.enums,Msg.reserved,Msg.names,List.length_append,List.length_cons,List.length_nil]<;>try omega
  intro k' hk
  rcases List.mem_append.1 hk with hk | hk
  ·exact b1 k' hk
  ·rw[List.mem_singleton.1 hk]
   exact h1
 split at h
 ·split at h
  ·cases h
  rename_i k r hr
  have h1:=Q00 hr
  injection h with h
  injection h with h4 h5
  subst h4 h5
  refine⟨⟨?_,?_,?_,?_,?_,?_⟩,b1,b2⟩<;>simp only[Msg.addOneof,Msg.fields,Msg.oneofs,Msg.msgs,Msg.enums,Msg.reserved,Msg.names,List.length_append,List.length_cons,List.length_nil]<;>omega
 split at h
 ·split at h
  ·cases h
  rename_i k r hr
  have h1:=TP hr
  injection h with h
  injection h with h4 h5
  subst h4 h5
  refine⟨⟨?_,?_,?_,?_,?_,?_⟩,b1,b2⟩<;>simp only[Msg.addReserved,Msg.fields,Msg.oneofs,Msg.msgs,Msg.enums,Msg.reserved,Msg.names,List.length_append]<;>omega
 split at h
 ·cases h
 rename_i k r hr
 injection h with h
 injection h with h4 h5
 subst h4 h5
 refine⟨⟨?_,?_,?_,?_,?_,?_⟩,b1,b2⟩<;>simp only[Msg.addField,Msg.fields,Msg.oneofs,Msg.msgs,Msg.enums,Msg.reserved,Msg.names,List.length_append,List.length_cons,List.length_nil]<;>omega
theorem RZ{l:List Tk}(hl:l.length<=100000){sub:Nat->AZ (Msg×Nat)}(hst:Steps l sub)(hsub:∀ p x q,sub p=.ok (x,q)->x.fine):∀ (n:Nat) (m:Msg) (p:Nat) {m':Msg} {q:Nat},p<=l.length->FineTo m p->ET l sub n m p=.ok (m',q)->FineTo m' q
 | 0,m,p,m',q,hp,hm,h=>by cases h
 | n+1,m,p,m',q,hp,hm,h=>by
  have hs:=G9 hp
  simp only[ET]at h
  split at h
  ·rename_i h1
   have:=B7 h1
   injection h with h
   injection h with h2 h3
   subst h2 h3
   exact⟨hm.1.mono (by omega),hm.2⟩
  split at h
  ·cases h
  rename_i v r hv
  have h1:=FR hst hv
  have h2:=LR hl hst hsub hm hv
  exact RZ hl hst hsub n v r (by omega) ⟨h2.1.mono (by omega),h2.2⟩ h
theorem G3{l:List Tk}(hl:l.length<=100000):∀ d p x q,BE l d p=.ok (x,q)->x.fine
 | 0,p,x,q,h=>by
  unfold BE at h
  split at h<;>cases h
 | d+1,p,x,q,h=>by
  have h0:=CJ l (d+1) p x q h
  unfold BE at h
  split at h
  ·cases h
  rename_i y r hx
  split at h
  ·cases h
  rename_i s hs
  have h2:=BA hs
  have h3:FineTo (.mk y.1.t [] [] [] [] [] [] y.2.1 y.2.2) s:=⟨⟨Nat.zero_le _,Nat.zero_le _,Nat.zero_le _,Nat.zero_le _,Nat.zero_le _,Nat.zero_le _⟩,fun x hx=>(by cases hx),fun k hk=>(by cases hk)⟩
  exact FineTo.fine (RZ hl (CJ l d) (G3 hl d) _ _ _ (by omega) h3 h) (by omega)
theorem IG{l:List Tk}(hl:l.length<=100000):∀ (n:Nat) (f:Fil) (p:Nat) {g:Fil},f.fine->f.msgs.length<=p->f.enums.length<=p->p<=l.length->DW l n f p=.ok g->g.fine
 | 0,f,p,g,hf,h1,h2,hp,h=>by cases h
 | n+1,f,p,g,hf,h1,h2,hp,h=>by
  rw[DW]at h
  split at h
  ·rename_i hlt
   split at h
   ·exact IG hl n f (p+1) hf (by omega) (by omega) (by omega) h
   split at h
   ·split at h
    ·cases h
    rename_i m q hm
    have h3:=G3 hl _ _ _ _ hm
    have h4:=CJ l _ _ _ _ hm
    refine IG hl n { f with msgs:=f.msgs++[m] } q ⟨?_,hf.2.1,hf.2.2.1,fun k hk=>?_⟩ ?_ ?_ h4.2 h
    ·simp only[List.length_append,List.length_cons,List.length_nil]
     omega
    ·rcases List.mem_append.1 hk with hk | hk
     ·exact hf.2.2.2 k hk
     ·rw[List.mem_singleton.1 hk]
      exact h3
    ·simp only[List.length_append,List.length_cons,List.length_nil]
     omega
    ·dsimp only
     omega
   split at h
   ·split at h
    ·cases h
    rename_i m q hm
    have h3:=RI hl hm
    have h4:=MW hm
    refine IG hl n { f with enums:=f.enums++[m] } q ⟨hf.1,?_,fun k hk=>?_,hf.2.2.2⟩ ?_ ?_ h4.2 h
    ·simp only[List.length_append,List.length_cons,List.length_nil]
     omega
    ·rcases List.mem_append.1 hk with hk | hk
     ·exact hf.2.2.1 k hk
     ·rw[List.mem_singleton.1 hk]
      exact h3
    ·dsimp only
     omega
    ·simp only[List.length_append,List.length_cons,List.length_nil]
     omega
   ·cases h
  ·injection h with h
   subst h
   exact hf
abbrev oB(l:List Tk)(which:Int)(m:Msg)(q:Nat):BL:=[(4,ptX),(5,mpX),(8,fX (T6 1 which)),(1,pX l q),(3,pmX m)]
abbrev OE(l:List Tk)(E8 E9:Er)(which:Int)(r:AZ (Msg×Nat))(y:IV)(B1:BL)(R1:RL):Prop:=ME l E8 E9 (oB l which) pmR r y B1 R1
theorem OE.tidy{l:List Tk}{E8 E9:Er}{which:Int}{r:AZ (Msg×Nat)}{m:Msg}{q:Nat}(y:IV)(B1:BL)(R1:RL)(h:OE l E8 E9 which r y B1 R1):H0 (oB l which m q) (pmR m) y B1 R1:=by
 rcases h with⟨a,b,z,x,_,rfl,rfl,rfl⟩ | ⟨x,z,_,rfl,rfl,rfl⟩<;>exact⟨rfl,rfl,rfl,rfl⟩
def WP(l:List Tk)(which:Int)(m:Msg)(p:Nat):AZ (Msg×Nat):=BX m (FN l p 1 which)
theorem SK{m x:Msg}{r:AZ (Fld×Nat)}{z:Nat}(h:BX m r=.ok (x,z)):∃ g,r=.ok (g,z)/\x=m.addField g:=by
 unfold BX at h
 split at h
 ·cases h
 ·rename_i g q
  injection h with h
  injection h with h1 h2
  subst h1 h2
  exact⟨g,rfl,rfl⟩
theorem VC{m:Msg}{g:Fld}{y z:Nat}(h:Small m y)(hz:y+1<=z):Small (m.addField g) z:=by
 obtain⟨nm,fs,os,ms,es,rs,ns,ln,cl⟩:=m
 obtain⟨a1,a2,a3,a4,a5,a6⟩:=h
 simp only[Msg.fields,Msg.oneofs,Msg.msgs,Msg.enums,Msg.reserved,Msg.names]at a1 a2 a3 a4 a5 a6
 refine⟨?_,?_,?_,?_,?_,?_⟩<;>simp only[Msg.addField,Msg.fields,Msg.oneofs,Msg.msgs,Msg.enums,Msg.reserved,Msg.names,List.length_append,List.length_cons,List.length_nil]<;>omega
abbrev Q78:IV:=.clo (.func 227) [] [.box 4 0,.box 5 0,.box 8 0]
theorem Q4h(E8 E9:Er)(l:List Tk)(hl:PTk l)(which:Int)(m:Msg)(hm:Small m 100000000000)(p:Nat)(hp:p<=100000):EG Tryz.prog (gE E8 E9) 227 [.box 4 0,.box 5 0,.box 8 0] (oB l which m p) (pmR m) (OE l E8 E9 which (WP l which m p)):=by
 refine B4 8 Tryz.func227 rfl rfl rfl fun w D bor mb=>?_
 try refine A0 ?_
 refine A1 (AE rfl rfl rfl rfl rfl .nil) ?_
 try refine A0 ?_
 refine A8 ?_
 refine AB (A4 rfl (kn rfl) rfl rfl one_183) ?_
 refine AB (A4 rfl (kn rfl) rfl rfl one_320) ?_
 refine AB (AT (ds:=[_,_,_,_,_,_,_,_,_,_]) 10 rfl (kn rfl) rfl rfl agg_210 sz_210 rfl) ?_
 refine AH rfl rfl rfl rfl (by kernel_rfl) (PU E8 E9 l hl m hm (T6 1 which) p hp) ⟨rfl,rfl,trivial⟩ ⟨rfl,rfl,rfl,rfl,rfl,rfl,trivial⟩ ⟨(kn rfl),⟨(kn rfl),⟨(kn rfl),trivial⟩⟩⟩ (NE.tidy) ?_
 rintro _ _ _ (⟨a,b,z,g,he,rfl,rfl,rfl⟩ | ⟨g,z,ho,rfl,rfl,rfl⟩)
 ·refine AG ?_
  refine A6 ?_
  try refine A0 ?_
  exact A7 (oB l which g z) (pmR g) rfl (.tmp (kn rfl) (.nil)) (Imp.refl _) ⟨s_b,s_b,s_b,s_b,s_b,trivial⟩ ⟨rfl,rfl,rfl,rfl,rfl,rfl,trivial⟩ (.inl ⟨a,b,z,g,he,rfl,rfl,rfl⟩)
 ·refine AG ?_
  refine A6 ?_
  try refine A0 ?_
  exact A7 (oB l which g z) (pmR g) rfl (.tmp (kn rfl) (.nil)) (Imp.refl _) ⟨s_b,s_b,s_b,s_b,s_b,trivial⟩ ⟨rfl,rfl,rfl,rfl,rfl,rfl,trivial⟩ (.inr ⟨g,z,ho,rfl,rfl,rfl⟩)
def PW(m:Msg)(z:Nat):Prop:=Small m (10000000000+z)
set_option maxHeartbeats 2000000 in
theorem Q76(E8 E9:Er)(l:List Tk)(hl:PTk l)(which:Int)(x0:Msg)(p:Nat)(hp:p<=100000)(hx0:∀ q,p<q->PW x0 q):EG Tryz.prog (gE E8 E9) 168 [.box 1 0,.part (iP 1),Q78] (oB l which x0 p) (pmR x0) (ME l E8 E9 (oB l which) (pmR) (E5 l 1 (WP l which) x0 p)):=by
 refine B4 35 Tryz.func168 rfl rfl rfl fun w D bor mb=>?_
 try refine A0 ?_
 have hll:=hl.len
 obtain⟨rr,hrr⟩:∃ rr,rr=E5 l 1 (WP l which) x0 p:=⟨_,rfl⟩
 rw[<- hrr]
 refine A1 (AE rfl rfl rfl rfl rfl .nil) ?_
 try refine A0 ?_
 refine A8 ?_
 refine AJ ?_
 refine AB (AC (ds:=[_]) [(0,_)] rfl ⟨rfl,(kn rfl),trivial⟩ rfl sl_54 sz_9 zr_9 (fun w D=>.cons (.cell _) (.nil _ _)) rfl rfl rfl rfl rfl) ?_
 refine AH rfl rfl rfl rfl (by kernel_rfl) (D4 E8 E9 l hl 4 [123] rfl (by decide) p (by omega)) ⟨rfl,trivial⟩ trivial ⟨(kn rfl),⟨(kn rfl),trivial⟩⟩ (PE.tidy) ?_
 rintro _ _ _ (⟨a,b,z,he,rfl,rfl,rfl⟩ | ⟨q0,ho,rfl,rfl,rfl⟩)
 ·refine AG ?_
  refine A6 ?_
  try refine A0 ?_
  refine A1 (AA rfl rfl rfl rfl rfl (A5 rfl rfl rfl (AP rfl (kn rfl) rfl ifc_28) .nil)) ?_
  try refine A0 ?_
  refine BD ?_
  try refine A0 ?_
  refine A1 (AA rfl rfl rfl rfl rfl (AE rfl rfl rfl rfl rfl .nil)) ?_
  try refine A0 ?_
  exact A7 (oB l which x0 z) (pmR x0) rfl (.tmp (kn rfl) (.nil)) (Imp.refl _) ⟨s_b,s_b,s_b,s_b,s_b,trivial⟩ ⟨rfl,rfl,rfl,rfl,rfl,rfl,trivial⟩ (.inl ⟨a,b,z,x0,by rw[hrr,E5,he],rfl,rfl,rfl⟩)
 have ho1:=BA ho
 refine AG ?_
 refine A6 ?_
 try refine A0 ?_
 refine A1 (AA rfl rfl rfl rfl rfl (A5 rfl rfl rfl (AQ rfl (kn rfl) ifc_28) .nil)) ?_
 try refine A0 ?_
 refine C1 ?_
 try refine A0 ?_
 refine A1 (AE rfl rfl rfl rfl rfl .nil) ?_
 try refine A0 ?_
 rw[E5,ho]at hrr
 dsimp only at hrr
 refine CB (ι:={ i:Nat×Msg×Nat×Nat // 1<=i.1/\l.length+1<=i.1+i.2.2.2/\i.2.2.2<=l.length/\i.2.2.1<=i.2.2.2/\PW i.2.1 i.2.2.2/\rr=K0 l 1 (WP l which) i.1 i.2.1 i.2.2.1 i.2.2.2 })
  (fun i=>[(0,.box 1 0),(1,.part (iP 1)),(2,Q78),(8,.is (.int .i64 (i.1.2.2.1:Int)))])
  (fun i=>oB l which i.1.2.1 i.1.2.2.2) (fun i=>pmR i.1.2.1)
  (fun i=>i.1.1) ⟨(l.length+1,x0,0,q0),by omega,by dsimp only;omega,by dsimp only;omega,by dsimp only;omega,hx0 q0 (by omega),hrr⟩
  (fun K=>B8 ⟨s_t,s_t,s_t,s_t,trivial⟩ ⟨s_b,s_b,s_b,s_b,s_b,trivial⟩ ⟨rfl,rfl,rfl,rfl,rfl,rfl,trivial⟩) ?_
 rintro⟨⟨n',x,k,q⟩,hn1,hn,hq,hk,hbd,hw⟩
 dsimp only at hn1 hn hq hk hbd hw ⊢
 obtain⟨n,rfl⟩:∃ n,n'=n+1:=⟨n'-1,by omega⟩
 rw[K0]at hw
 try refine A0 ?_
 refine A8 ?_
 refine AJ ?_
 refine AJ ?_
 refine AB (AN rfl (kn rfl) (kn rfl) CP) ?_
 refine AJ ?_
 refine C6 rfl rfl rfl (fun h=>C8 rfl (kn rfl)) ?_
 refine C6 rfl rfl rfl (fun h=>AC (ds:=[_]) [(0,_)] rfl ⟨rfl,(kn rfl),trivial⟩ rfl sl_54 sz_9 zr_9 (fun w D=>.cons (.cell _) (.nil _ _)) rfl rfl rfl rfl rfl) ?_
 refine L2 rfl rfl rfl (fun h=>?_) (fun h=>?_)
 ·have hkl:¬ k<1:=by
   have h0:=of_decide_eq_false (J0 h)
   omega
  refine AH rfl rfl rfl rfl (by kernel_rfl) (CR _ l hl [125] 4 rfl (by decide) q (by omega)) ⟨rfl,trivial⟩ trivial ⟨(A9 rfl h),⟨(A9 rfl h),trivial⟩⟩ (fun _ _ _ h=>PY.tidy h.1 h.2.1 h.2.2) ?_
  rintro _ _ _ ⟨rfl,rfl,rfl⟩
  refine C6 rfl rfl rfl (fun h=>DL rfl (kn rfl)) ?_
  refine AB (EJ rfl (kn rfl) (fun hb=>A9 rfl hb)) ?_
  refine A6 ?_
  try refine A0 ?_
  have h0:=J0 h
  rw[h0,Bool.false_or]
  rw[decide_eq_false hkl,Bool.false_or]at hw
  cases h1:tkIs l q 4 [125]
  ·rw[h1]at hw
   rw[if_neg (by decide)]at hw
   refine BD ?_
   try refine A0 ?_
   refine A8 ?_
   refine AJ ?_
   refine AB (AC (ds:=[_]) [(0,_)] rfl ⟨rfl,(kn rfl),trivial⟩ rfl sl_54 sz_9 zr_9 (fun w D=>.cons (.cell _) (.nil _ _)) rfl rfl rfl rfl rfl) ?_
   refine AH rfl rfl rfl rfl (by kernel_rfl) (CR _ l hl [59] 4 rfl (by decide) q (by omega)) ⟨rfl,trivial⟩ trivial ⟨(kn rfl),⟨(kn rfl),trivial⟩⟩ (fun _ _ _ h=>PY.tidy h.1 h.2.1 h.2.2) ?_
   rintro _ _ _ ⟨rfl,rfl,rfl⟩
   refine A6 ?_
   try refine A0 ?_
   refine AO rfl (fun h2=>?_) (fun h2=>?_)
   ·have hlt:=B7 h2
    rw[if_pos h2]at hw
    rw[h2]
    try refine A0 ?_
    refine BB ⟨(n,x,k,q+1),by omega,by dsimp only;omega,by dsimp only;omega,by dsimp only;omega,Small.mono hbd (by dsimp only;omega),hw⟩ (by dsimp only;omega) (fun K=>B8 ⟨s_t,s_t,s_t,s_t,trivial⟩ ⟨s_b,s_b,s_b,s_b,s_b,trivial⟩ ⟨rfl,rfl,rfl,rfl,rfl,rfl,trivial⟩)
   rw[if_neg (by rw[h2];decide)]at hw
   rw[h2]
   try refine A0 ?_
   refine A8 ?_
   refine AJ ?_
   refine F9 (zs:=[]) rfl rfl rfl rfl (by kernel_rfl) (Q4h E8 E9 l hl which x (Small.mono hbd (by omega)) q (by omega)) ⟨rfl,rfl,rfl,rfl,rfl,trivial⟩ ⟨rfl,rfl,rfl,rfl,rfl,rfl,trivial⟩ (kn rfl) trivial rfl (OE.tidy) ?_
   rintro _ _ _ (⟨a,b,z,g,he,rfl,rfl,rfl⟩ | ⟨y,r,ho,rfl,rfl,rfl⟩)
   ·refine AG ?_
    refine A6 ?_
    try refine A0 ?_
    refine A1 (AA rfl rfl rfl rfl rfl (A5 rfl rfl rfl (AP rfl (kn rfl) rfl ifc_28) .nil)) ?_
    try refine A0 ?_
    refine BD ?_
    try refine A0 ?_
    refine A1 (AA rfl rfl rfl rfl rfl (AE rfl rfl rfl rfl rfl .nil)) ?_
    try refine A0 ?_
    exact A7 (oB l which g z) (pmR g) rfl (.tmp (kn rfl) (.nil)) (Imp.refl _) ⟨s_b,s_b,s_b,s_b,s_b,trivial⟩ ⟨rfl,rfl,rfl,rfl,rfl,rfl,trivial⟩ (.inl ⟨a,b,z,g,by rw[hw,he],rfl,rfl,rfl⟩)
   rw[ho]at hw
   dsimp only at hw
   obtain⟨g,hg,hyg⟩:=SK ho
   have hv:=F6 hg
   have hby:PW y r:=by rw[hyg];exact VC hbd (by omega)
   refine AG ?_
   refine A6 ?_
   try refine A0 ?_
   refine A1 (AA rfl rfl rfl rfl rfl (A5 rfl rfl rfl (AQ rfl (kn rfl) ifc_28) .nil)) ?_
   try refine A0 ?_
   refine C1 ?_
   try refine A0 ?_
   refine A1 (AA rfl rfl rfl rfl rfl (A5 rfl rfl rfl (AN rfl (kn rfl) (kn rfl) (BF (by first | omega | (dsimp only;omega)))) (AE rfl rfl rfl rfl rfl .nil))) ?_
   try refine A0 ?_
   refine BB ⟨(n,y,k+1,r),by omega,by dsimp only;omega,by dsimp only;omega,by dsimp only;omega,hby,hw⟩ (by dsimp only;omega) (fun K=>B8 ⟨s_t,s_t,s_t,s_t,trivial⟩ ⟨s_b,s_b,s_b,s_b,s_b,trivial⟩ ⟨rfl,rfl,rfl,rfl,rfl,rfl,trivial⟩)
  ·rw[h1]at hw
   rw[if_pos (by decide)]at hw
   refine C1 ?_
   try refine A0 ?_
   refine A1 (AE rfl rfl rfl rfl rfl .nil) ?_
   try refine A0 ?_
   exact A7 (oB l which x (q+1)) (pmR x) rfl (.tmp (kn rfl) (.nil)) (Imp.refl _) ⟨s_b,s_b,s_b,s_b,s_b,trivial⟩ ⟨rfl,rfl,rfl,rfl,rfl,rfl,trivial⟩ (.inr ⟨x,q+1,hw,rfl,rfl,rfl⟩)
 ·have hkl:k<1:=by
   have h0:=of_decide_eq_true (IB h)
   omega
  have h0:=IB h
  refine C6 (y:=.is (.bool false)) rfl rfl rfl (fun h'=>absurd (h'.symm.trans h) (by decide)) ?_
  refine AB (EJ rfl (kn rfl) (fun hb=>A9 rfl hb)) ?_
  refine A6 ?_
  try refine A0 ?_
  rw[h0,Bool.true_or]
  rw[decide_eq_true hkl,Bool.true_or]at hw
  rw[if_neg (by decide)]at hw
  refine BD ?_
  try refine A0 ?_
  refine A8 ?_
  refine AJ ?_
  refine AB (AC (ds:=[_]) [(0,_)] rfl ⟨rfl,(kn rfl),trivial⟩ rfl sl_54 sz_9 zr_9 (fun w D=>.cons (.cell _) (.nil _ _)) rfl rfl rfl rfl rfl) ?_
  refine AH rfl rfl rfl rfl (by kernel_rfl) (CR _ l hl [59] 4 rfl (by decide) q (by omega)) ⟨rfl,trivial⟩ trivial ⟨(kn rfl),⟨(kn rfl),trivial⟩⟩ (fun _ _ _ h=>PY.tidy h.1 h.2.1 h.2.2) ?_
  rintro _ _ _ ⟨rfl,rfl,rfl⟩
  refine A6 ?_
  try refine A0 ?_
  refine AO rfl (fun h2=>?_) (fun h2=>?_)
  ·have hlt:=B7 h2
   rw[if_pos h2]at hw
   rw[h2]
   try refine A0 ?_
   refine BB ⟨(n,x,k,q+1),by omega,by dsimp only;omega,by dsimp only;omega,by dsimp only;omega,Small.mono hbd (by dsimp only;omega),hw⟩ (by dsimp only;omega) (fun K=>B8 ⟨s_t,s_t,s_t,s_t,trivial⟩ ⟨s_b,s_b,s_b,s_b,s_b,trivial⟩ ⟨rfl,rfl,rfl,rfl,rfl,rfl,trivial⟩)
  rw[if_neg (by rw[h2];decide)]at hw
  rw[h2]
  try refine A0 ?_
  refine A8 ?_
  refine AJ ?_
  refine F9 (zs:=[]) rfl rfl rfl rfl (by kernel_rfl) (Q4h E8 E9 l hl which x (Small.mono hbd (by omega)) q (by omega)) ⟨rfl,rfl,rfl,rfl,rfl,trivial⟩ ⟨rfl,rfl,rfl,rfl,rfl,rfl,trivial⟩ (kn rfl) trivial rfl (OE.tidy) ?_
  rintro _ _ _ (⟨a,b,z,g,he,rfl,rfl,rfl⟩ | ⟨y,r,ho,rfl,rfl,rfl⟩)
  ·refine AG ?_
   refine A6 ?_
   try refine A0 ?_
   refine A1 (AA rfl rfl rfl rfl rfl (A5 rfl rfl rfl (AP rfl (kn rfl) rfl ifc_28) .nil)) ?_
   try refine A0 ?_
   refine BD ?_
   try refine A0 ?_
   refine A1 (AA rfl rfl rfl rfl rfl (AE rfl rfl rfl rfl rfl .nil)) ?_
   try refine A0 ?_
   exact A7 (oB l which g z) (pmR g) rfl (.tmp (kn rfl) (.nil)) (Imp.refl _) ⟨s_b,s_b,s_b,s_b,s_b,trivial⟩ ⟨rfl,rfl,rfl,rfl,rfl,rfl,trivial⟩ (.inl ⟨a,b,z,g,by rw[hw,he],rfl,rfl,rfl⟩)
  rw[ho]at hw
  dsimp only at hw
  obtain⟨g,hg,hyg⟩:=SK ho
  have hv:=F6 hg
  have hby:PW y r:=by rw[hyg];exact VC hbd (by omega)
  refine AG ?_
  refine A6 ?_
  try refine A0 ?_
  refine A1 (AA rfl rfl rfl rfl rfl (A5 rfl rfl rfl (AQ rfl (kn rfl) ifc_28) .nil)) ?_
  try refine A0 ?_
  refine C1 ?_
  try refine A0 ?_
  refine A1 (AA rfl rfl rfl rfl rfl (A5 rfl rfl rfl (AN rfl (kn rfl) (kn rfl) (BF (by first | omega | (dsimp only;omega)))) (AE rfl rfl rfl rfl rfl .nil))) ?_
  try refine A0 ?_
  refine BB ⟨(n,y,k+1,r),by omega,by dsimp only;omega,by dsimp only;omega,by dsimp only;omega,hby,hw⟩ (by dsimp only;omega) (fun K=>B8 ⟨s_t,s_t,s_t,s_t,trivial⟩ ⟨s_b,s_b,s_b,s_b,s_b,trivial⟩ ⟨rfl,rfl,rfl,rfl,rfl,rfl,trivial⟩)
theorem X2{l:List Tk}{p:Nat}(hc:tkIs l p 4 [125]=true)(a b:Int):FN l p a b=.error (p,9):=by
 have h1:DF l p=.error (p,9):=DY (by rw[V4 hc];decide)
 have h2:tkIs l p 4 [46]=false:=NC hc (by simp) (by simp) (by decide)
 simp[FN,CX,h2,E3,h1]
def PX(m:Msg)(r:AZ ((List UInt8×List Fld)×Nat)):AZ (Msg×Nat):=
 match r with
 | .error e=>.error e
 | .ok (g,q)=>.ok (m.addOneof g,q)
theorem MZ(m:Msg)(t:List UInt8)(fs:List Fld)(f:Fld):(m.addOneof (t,fs)).addField f=m.addOneof (t,fs++[f]):=by
 cases m
 simp[Msg.addOneof,Msg.addField]
theorem OQ(l:List Tk)(which:Int)(mm:Msg)(t:List UInt8):∀ (d n m:Nat) (vs:List Fld) (p:Nat),l.length+1-p<=d->p<=l.length->l.length+1<=n+p->l.length+1<=m+p ->
  (match GL l which n vs p with | .error e=>(.error e:AZ (Msg×Nat)) | .ok (us,r)=>.ok (mm.addOneof (t,us),r))=K0 l 1 (WP l which) m (mm.addOneof (t,vs)) vs.length p
 | 0,_,_,_,p,hd,hp,_,_=>by omega
 | d+1,0,_,_,p,hd,hp,hn,_=>by omega
 | d+1,_,0,_,p,hd,hp,_,hm=>by omega
 | d+1,n+1,m+1,vs,p,hd,hp,hn,hm=>by
  by_cases hs:tkIs l p 4 [59]=true
  ·have hlt:=B7 hs
   have hc:=NC (t:=[125]) hs (by simp) (by simp) (by decide)
   have ih:=OQ l which mm t d (n+1) m vs (p+1) (by omega) (by omega) (by omega) (by omega)
   rw[K0,hc,hs]
   simp only[Bool.not_false,Bool.or_true,Bool.not_true,Bool.false_eq_true,if_false,if_true]
   rw[<- ih]
   rw[GL,GL,MK hs]
  ·have hs':tkIs l p 4 [59]=false:=by simpa using hs
   rw[GL,K0,MA hs',hs']
   by_cases hc:tkIs l p 4 [125]=true
   ·rw[hc]
    cases vs with
    | nil=>simp[WP,BX,X2 hc,D1]
    | cons v vs=>simp
   ·have hc':tkIs l p 4 [125]=false:=by simpa using hc
    rw[hc']
    simp only[Bool.not_false,Bool.or_true,Bool.not_true,Bool.false_eq_true,if_false]
    cases hv:FN l p 1 which with
    | error e=>simp only[WP,BX,hv]
    | ok y=>
     obtain⟨v,q⟩:=y
     have hq:=F6 hv
     simp only[WP,BX,hv,MZ]
     rcases Nat.eq_zero_or_pos n with h0 | h0
     ·omega
     ·have ih:=OQ l which mm t d n m (vs++[v]) q (by omega) (by omega) (by omega) (by omega)
      rw[List.length_append]at ih
      exact ih
theorem HQ(l:List Tk)(m:Msg)(which:Int)(p:Nat):PX m (G1 l p which)=match DF l p with
 | .error e=>.error e
 | .ok (x,q)=>E5 l 1 (WP l which) (m.addOneof (x.1.t,[])) q:=by
 unfold G1 KM E5 PX
 cases hx:DF l p with
 | error e=>rfl
 | ok x=>
  obtain⟨x,q⟩:=x
  dsimp only
  cases hw:BK l 4 [123] q with
  | error e=>rfl
  | ok r=>
   dsimp only
   have hr:=BA hw
   have h:=OQ l which m x.1.t _ (l.length+1) (l.length+1) [] r (Nat.le_refl _) (by omega) (by omega) (by omega)
   refine Eq.trans ?_ h
   cases GL l which (l.length+1) [] r with
   | error e=>rfl
   | ok y=>rfl
theorem U7{m:Msg}{t:List UInt8}{y z:Nat}(h:Small m y)(hz:y+1<=z):Small (m.addOneof (t,[])) z:=by
 obtain⟨nm,fs,os,ms,es,rs,ns,ln,cl⟩:=m
 obtain⟨a1,a2,a3,a4,a5,a6⟩:=h
 simp only[Msg.fields,Msg.oneofs,Msg.msgs,Msg.enums,Msg.reserved,Msg.names]at a1 a2 a3 a4 a5 a6
 refine⟨?_,?_,?_,?_,?_,?_⟩<;>simp only[Msg.addOneof,Msg.fields,Msg.oneofs,Msg.msgs,Msg.enums,Msg.reserved,Msg.names,List.length_append,List.length_cons,List.length_nil]<;>omega
set_option maxHeartbeats 1000000 in
theorem Q58(E8 E9:Er)(l:List Tk)(hl:PTk l)(m:Msg)(p:Nat)(hm:Small m (10000000000+p))(hp:p<=100000):EG Tryz.prog (gE E8 E9) 205 [.box 1 0,.box 3 0] (mS l m p) (pmR m) (NE l E8 E9 (PX m (G1 l p ((m.oneofs.length:Int)+1)))):=by
 obtain⟨nm,fs,os,ms,es,rs,ns,ln,cl⟩:=m
 have hm0:(Msg.mk nm fs os ms es rs ns ln cl).oneofs.length<=10000000000+p:=hm.2.1
 have hm1:(Msg.mk nm fs os ms es rs ns ln cl).oneofs.length<=100000000000:=by omega
 refine B4 36 Tryz.func205 rfl rfl rfl fun w D bor mb=>?_
 try refine A0 ?_
 have hll:=hl.len
 refine A8 ?_
 refine IQ 4 rfl rfl rfl rfl (kn rfl) rfl rfl rfl rfl rfl ?_
 refine IQ 5 rfl rfl rfl rfl (kn rfl) rfl rfl rfl rfl rfl ?_
 refine AG ?_
 refine A6 ?_
 try refine A0 ?_
 refine A8 ?_
 refine AB (A4 rfl (kn rfl) rfl rfl one_183) ?_
 refine AH rfl rfl rfl rfl (by kernel_rfl) (DB E8 E9 l hl.toTksOk (p) 1 (by omega)) ⟨rfl,trivial⟩ trivial ⟨(kn rfl),⟨(kn rfl),trivial⟩⟩ (TY.tidy) ?_
 rintro _ _ _ (⟨hk,rfl,rfl,rfl⟩ | ⟨hk,rfl,rfl,rfl⟩)
 ·refine AJ ?_
  refine B3 ?_
  refine B3 ?_
  refine AS 30 [.is (.int .i64 0),.is (.string ⟨#[]⟩),.is (.int .i64 0),.is (.int .i64 0),.is (.int .i64 0)] rfl rfl rfl rfl zr_128 (fun w D M V=>⟨rfl,fun j x v h1 h2=>AR _ h1 h2 rfl⟩) rfl rfl rfl rfl ?_
  refine AI rfl rfl rfl (kn rfl) rfl (kn rfl) rfl rfl sz_128 ?_
  refine AG ?_
  refine A6 ?_
  try refine A0 ?_
  refine A1 (AA rfl rfl rfl rfl rfl (A5 rfl rfl rfl (AP rfl (kn rfl) rfl ifc_28) .nil)) ?_
  try refine A0 ?_
  refine BD ?_
  try refine A0 ?_
  refine A1 (AA rfl rfl rfl rfl rfl (AE rfl rfl rfl rfl rfl .nil)) ?_
  try refine A0 ?_
  exact A7 (mS l (Msg.mk nm fs os ms es rs ns ln cl) p) (pmR (Msg.mk nm fs os ms es rs ns ln cl)) rfl (.tmp (kn rfl) (.nil)) (Imp.refl _) ⟨s_b,s_b,trivial⟩ ⟨rfl,rfl,rfl,rfl,rfl,rfl,trivial⟩ (.inl ⟨p,9,p,_,by rw[HQ,DY hk],rfl,rfl,rfl⟩)
 refine AJ ?_
 refine B3 ?_
 refine B3 ?_
 refine AS 30 [.is (.int .i64 0),.is (.string ⟨#[]⟩),.is (.int .i64 0),.is (.int .i64 0),.is (.int .i64 0)] rfl rfl rfl rfl zr_128 (fun w D M V=>⟨rfl,fun j x v h1 h2=>AR _ h1 h2 rfl⟩) rfl rfl rfl rfl ?_
 refine AI rfl rfl rfl (kn rfl) rfl (kn rfl) rfl rfl sz_128 ?_
 refine AG ?_
 refine A6 ?_
 try refine A0 ?_
 refine A1 (AA rfl rfl rfl rfl rfl (A5 rfl rfl rfl (AQ rfl (kn rfl) ifc_28) .nil)) ?_
 try refine A0 ?_
 refine C1 ?_
 try refine A0 ?_
 obtain⟨hlt0,hx⟩:=G4 hk
 refine IR 8 mixed (by kernel_rfl) rfl rfl (A5 rfl rfl rfl (A4 rfl (kn rfl) rfl rfl one_320) (A5 rfl rfl rfl (A4 rfl (kn rfl) rfl rfl one_320) (A5 rfl rfl rfl (AL rfl (kn rfl)) (A5 rfl rfl rfl (A3 rfl (kn rfl) off_204_2) (A5 rfl rfl rfl (A4 rfl (kn rfl) rfl rfl one_54) (A5 rfl rfl rfl (A3 rfl (kn rfl) off_128_1) (A5 rfl rfl rfl (A4 rfl (kn rfl) rfl rfl one_9) (A5 rfl rfl rfl (AC (ds:=[_]) [(0,_)] rfl ⟨rfl,(kn rfl),trivial⟩ rfl sl_54 sz_9 zr_9 (fun w D=>.cons (.cell _) (.nil _ _)) rfl rfl rfl rfl rfl) .nil)))))))) rfl ?_ ?_
 ·refine BV rfl rfl rfl rfl (kn rfl) rfl (kn rfl) sl_54 ap_54 rfl rfl (by first | omega | (dsimp only;omega)) (by first | omega | (dsimp only;omega)) ?_
  refine AB (AL rfl (kn rfl)) ?_
  refine AB (A3 rfl (kn rfl) off_204_2) ?_
  refine B6 rfl rfl rfl (kn rfl) rfl (kn rfl) rfl rfl sz_54 rfl ?_
  refine A6 ?_
  try refine A0 ?_
  refine A8 ?_
  refine AB (A4 rfl (kn rfl) rfl rfl one_320) ?_
  refine AB (AL rfl (kn rfl)) ?_
  refine AB (A3 rfl (kn rfl) off_204_2) ?_
  refine AB (A4 rfl (kn rfl) rfl rfl one_54) ?_
  refine AB (GX rfl (kn rfl) rfl sle_54) ?_
  refine AB (B9 (ds:=[_,_,_,_,_,_,_,_,_,_]) [(4,_),(7,_)] rfl ⟨rfl,(kn rfl),⟨rfl,(kn rfl),trivial⟩⟩ rfl pl_210 zr_210 (fun w D=>.cons (.cell _) (.cons (.cell _) (.cons (.cell _) (.cons (.cell _) (.cons (.cell _) (.cons (.cell _) (.cons (.cell _) (.cons (.cell _) (.cons (.cell _) (.cons (.cell _) (.nil _ _))))))))))) rfl) ?_
  refine AS 8 [.is (.string ⟨#[]⟩),.is (.string ⟨#[]⟩),.is (.string ⟨#[]⟩),.is (.string ⟨#[]⟩),.is (.int .i64 0),.is (.int .i64 0),.is (.int .i64 0),.is (.int .i64 0),.is (.int .i64 0),.is (.int .i64 0)] rfl rfl rfl rfl zr_210 (fun w D M V=>⟨rfl,fun j x v h1 h2=>AR _ h1 h2 rfl⟩) rfl rfl rfl rfl ?_
  refine AI rfl rfl rfl (kn rfl) rfl (kn rfl) rfl rfl sz_210 ?_
  refine A6 ?_
  try refine A0 ?_
  refine A8 ?_
  refine AB (A4 rfl (kn rfl) rfl rfl one_183) ?_
  refine AB (HM (fs:=[]) (cs:=[.box 4 0,.box 5 0,.box 8 0]) rfl trivial ⟨(kn rfl),(kn rfl),(kn rfl),trivial⟩) ?_
  refine AH rfl rfl rfl rfl (by kernel_rfl) (Q76 E8 E9 l hl ((os.length:Int)+1) ((Msg.mk nm fs os ms es rs ns ln cl).addOneof ((tkAt l p).1.t,[])) (p+1) (by omega) (fun q hq=>U7 hm (by omega))) ⟨rfl,rfl,rfl,rfl,rfl,trivial⟩ ⟨E4 rfl (by simp[Msg.addOneof,Msg.fields]) (by simp[Msg.addOneof,Msg.fields]),E4 rfl (by simp[Msg.addOneof,Msg.oneofs]) (by simp[Msg.addOneof,Msg.oneofs,List.flatMap_append,textDats]),rfl,rfl,rfl,rfl,trivial⟩ ⟨(kn rfl),⟨(kn rfl),⟨(kn rfl),trivial⟩⟩⟩ (OE.tidy) ?_
  rintro _ _ _ (⟨a,b,z,g,he,rfl,rfl,rfl⟩ | ⟨g,z,ho,rfl,rfl,rfl⟩)
  ·refine AG ?_
   refine A6 ?_
   try refine A0 ?_
   exact A7 (mS l g z) (pmR g) rfl (.tmp (kn rfl) (.nil)) (Imp.refl _) ⟨s_b,s_b,trivial⟩ ⟨rfl,rfl,rfl,rfl,rfl,rfl,trivial⟩ (.inl ⟨a,b,z,g,by rw[<- he,HQ,hx];rfl,rfl,rfl,rfl⟩)
  refine AG ?_
  refine A6 ?_
  try refine A0 ?_
  exact A7 (mS l g z) (pmR g) rfl (.tmp (kn rfl) (.nil)) (Imp.refl _) ⟨s_b,s_b,trivial⟩ ⟨rfl,rfl,rfl,rfl,rfl,rfl,trivial⟩ (.inr ⟨g,z,by rw[<- ho,HQ,hx];rfl,rfl,rfl,rfl⟩)
 refine BV rfl rfl rfl rfl (kn rfl) rfl (kn rfl) sl_54 ap_54 rfl rfl (by first | omega | (dsimp only;omega)) (by first | omega | (dsimp only;omega)) ?_
 refine AB (A4 rfl (kn rfl) rfl rfl one_320) ?_
 refine AB (AL rfl (kn rfl)) ?_
 refine AB (A3 rfl (kn rfl) off_204_2) ?_
 refine B6 rfl rfl rfl (kn rfl) rfl (kn rfl) rfl rfl sz_54 rfl ?_
 refine A6 ?_
 try refine A0 ?_
 refine A8 ?_
 refine AB (A4 rfl (kn rfl) rfl rfl one_320) ?_
 refine AB (AL rfl (kn rfl)) ?_
 refine AB (A3 rfl (kn rfl) off_204_2) ?_
 refine AB (A4 rfl (kn rfl) rfl rfl one_54) ?_
 refine AB (GX rfl (kn rfl) rfl sle_54) ?_
 refine AB (B9 (ds:=[_,_,_,_,_,_,_,_,_,_]) [(4,_),(7,_)] rfl ⟨rfl,(kn rfl),⟨rfl,(kn rfl),trivial⟩⟩ rfl pl_210 zr_210 (fun w D=>.cons (.cell _) (.cons (.cell _) (.cons (.cell _) (.cons (.cell _) (.cons (.cell _) (.cons (.cell _) (.cons (.cell _) (.cons (.cell _) (.cons (.cell _) (.cons (.cell _) (.nil _ _))))))))))) rfl) ?_
 refine AS 8 [.is (.string ⟨#[]⟩),.is (.string ⟨#[]⟩),.is (.string ⟨#[]⟩),.is (.string ⟨#[]⟩),.is (.int .i64 0),.is (.int .i64 0),.is (.int .i64 0),.is (.int .i64 0),.is (.int .i64 0),.is (.int .i64 0)] rfl rfl rfl rfl zr_210 (fun w D M V=>⟨rfl,fun j x v h1 h2=>AR _ h1 h2 rfl⟩) rfl rfl rfl rfl ?_
 refine AI rfl rfl rfl (kn rfl) rfl (kn rfl) rfl rfl sz_210 ?_
 refine A6 ?_
 try refine A0 ?_
 refine A8 ?_
 refine AB (A4 rfl (kn rfl) rfl rfl one_183) ?_
 refine AB (HM (fs:=[]) (cs:=[.box 4 0,.box 5 0,.box 8 0]) rfl trivial ⟨(kn rfl),(kn rfl),(kn rfl),trivial⟩) ?_
 refine AH rfl rfl rfl rfl (by kernel_rfl) (Q76 E8 E9 l hl ((os.length:Int)+1) ((Msg.mk nm fs os ms es rs ns ln cl).addOneof ((tkAt l p).1.t,[])) (p+1) (by omega) (fun q hq=>U7 hm (by omega))) ⟨rfl,rfl,rfl,rfl,rfl,trivial⟩ ⟨E4 rfl (by simp[Msg.addOneof,Msg.fields]) (by simp[Msg.addOneof,Msg.fields]),E4 rfl (by simp[Msg.addOneof,Msg.oneofs]) (by simp[Msg.addOneof,Msg.oneofs,List.flatMap_append,textDats]),rfl,rfl,rfl,rfl,trivial⟩ ⟨(kn rfl),⟨(kn rfl),⟨(kn rfl),trivial⟩⟩⟩ (OE.tidy) ?_
 rintro _ _ _ (⟨a,b,z,g,he,rfl,rfl,rfl⟩ | ⟨g,z,ho,rfl,rfl,rfl⟩)
 ·refine AG ?_
  refine A6 ?_
  try refine A0 ?_
  exact A7 (mS l g z) (pmR g) rfl (.tmp (kn rfl) (.nil)) (Imp.refl _) ⟨s_b,s_b,trivial⟩ ⟨rfl,rfl,rfl,rfl,rfl,rfl,trivial⟩ (.inl ⟨a,b,z,g,by rw[<- he,HQ,hx];rfl,rfl,rfl,rfl⟩)
 refine AG ?_
 refine A6 ?_
 try refine A0 ?_
 exact A7 (mS l g z) (pmR g) rfl (.tmp (kn rfl) (.nil)) (Imp.refl _) ⟨s_b,s_b,trivial⟩ ⟨rfl,rfl,rfl,rfl,rfl,rfl,trivial⟩ (.inr ⟨g,z,by rw[<- ho,HQ,hx];rfl,rfl,rfl,rfl⟩)
end Go.Proofs.YtgcphgdkddihcaaGreatDoor
