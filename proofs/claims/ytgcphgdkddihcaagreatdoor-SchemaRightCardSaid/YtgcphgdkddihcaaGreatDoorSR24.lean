/- Part 24. Conditions: as each theorem says. -/
import Derived.Test.YtgcphgdkddihcaaGreatDoorSR23
import Derived.Test.YtgcphgdkddihcaaGreatDoorProg
set_option maxRecDepth 100000
namespace Go.Proofs.YtgcphgdkddihcaaGreatDoor
open Go.RowKit
theorem Q1X{l:List Tk}:∀ (n:Nat) (f:Fld) (p:Nat) {g:Fld} {q:Nat},U1 l n f p=.ok (g,q)->p<q/\q<=l.length
 | 0,f,p,g,q,h=>by cases h
 | n+1,f,p,g,q,h=>by
  unfold U1 at h
  split at h
  ·cases h
  rename_i x r hx
  have h1:=JS hx
  split at h
  ·have:=Q1X n _ _ h
   omega
  split at h
  ·cases h
  rename_i s hs
  have h2:=BA hs
  injection h with h
  injection h with h4 h5
  omega
theorem W6{l:List Tk}{f:Fld}{s:Nat}(h:tkIs l s 4 [91]=true):E0 l f s=(match U1 l (l.length+1) f (s+1)with | .error e=>.error e | .ok (g,r)=>match BK l 4 [59] r with | .error e=>.error e | .ok s=>.ok (g,s)):=by
 unfold E0
 rw[if_pos h]
 rcases UD l (l.length+1) f s (by omega)with h1 | h1
 ·exact h1
 ·omega
theorem TM{l:List Tk}{f:Fld}{s:Nat}(h:tkIs l s 4 [91]=false):E0 l f s=(match BK l 4 [59] s with | .error e=>.error e | .ok s=>.ok (f,s)):=by
 unfold E0
 rw[h]
 rfl
abbrev Q7Y:IV:=.clo (.func 243) [] [.box 4 0,.box 2 0]
set_option maxHeartbeats 1000000 in
theorem Q4M(E8 E9:Er)(l:List Tk)(hl:PTk l)(f0:Fld)(p:Nat)(hp:p<=100000):EG Tryz.prog (gE E8 E9) 228 [.box 1 0,.part (sP [93]),Q7Y] (fB4 l f0 p) [] (FE4 l E8 E9 (U1 l (l.length+1) f0 p)):=by
 refine B4 21 Tryz.func228 rfl rfl rfl fun w D bor mb=>?_
 try refine A0 ?_
 have hll:=hl.len
 obtain⟨rr,hrr⟩:∃ rr,rr=U1 l (l.length+1) f0 p:=⟨_,rfl⟩
 rw[<- hrr]
 refine A1 (AE rfl rfl rfl rfl rfl .nil) ?_
 try refine A0 ?_
 refine CB (ι:={ i:Nat×Fld×Nat // 1<=i.1/\l.length+1<=i.1+i.2.2/\i.2.2<=100000/\rr=U1 l i.1 i.2.1 i.2.2 })
  (fun _=>[(0,.box 1 0),(1,.part (sP [93])),(2,Q7Y)])
  (fun i=>fB4 l i.1.2.1 i.1.2.2) (fun _=>[])
  (fun i=>i.1.1) ⟨(l.length+1,f0,p),by omega,by dsimp only;omega,hp,hrr⟩
  (fun K=>B8 ⟨s_t,s_t,s_t,trivial⟩ ⟨s_b,s_b,s_b,trivial⟩ trivial) ?_
 rintro⟨⟨n,f,q⟩,hn1,hn,hq,hw⟩
 dsimp only at hn1 hn hq hw ⊢
 obtain⟨m,rfl⟩:∃ m,n=m+1:=⟨n-1,by omega⟩
 rw[U1]at hw
 try refine A0 ?_
 refine A8 ?_
 refine AJ ?_
 refine F9 (zs:=[]) rfl rfl rfl rfl (by kernel_rfl) (Q4Q E8 E9 l hl f q hq) ⟨rfl,rfl,rfl,trivial⟩ trivial (kn rfl) trivial rfl (FE4.tidy) ?_
 rintro _ _ _ (⟨a,b,z,g,he,rfl,rfl,rfl⟩ | ⟨g,r,ho,rfl,rfl,rfl⟩)
 ·refine AG ?_
  refine A6 ?_
  try refine A0 ?_
  refine A1 (AA rfl rfl rfl rfl rfl (A5 rfl rfl rfl (AP rfl (kn rfl) rfl ifc_28) .nil)) ?_
  try refine A0 ?_
  refine BD ?_
  try refine A0 ?_
  refine A1 (AA rfl rfl rfl rfl rfl (AE rfl rfl rfl rfl rfl .nil)) ?_
  try refine A0 ?_
  exact A7 (fB4 l g z) ([]) rfl (.tmp (kn rfl) (.nil)) (Imp.refl _) ⟨s_b,s_b,s_b,trivial⟩ trivial (.inl ⟨a,b,z,g,by rw[hw,he],rfl,rfl,rfl⟩)
 have ho1:=JS ho
 rw[ho]at hw
 dsimp only at hw
 refine AG ?_
 refine A6 ?_
 try refine A0 ?_
 refine A1 (AA rfl rfl rfl rfl rfl (A5 rfl rfl rfl (AQ rfl (kn rfl) ifc_28) .nil)) ?_
 try refine A0 ?_
 refine C1 ?_
 try refine A0 ?_
 refine A8 ?_
 refine AJ ?_
 refine AB (AC (ds:=[_]) [(0,_)] rfl ⟨rfl,(kn rfl),trivial⟩ rfl sl_54 sz_9 zr_9 (fun w D=>.cons (.cell _) (.nil _ _)) rfl rfl rfl rfl rfl) ?_
 refine AH rfl rfl rfl rfl (by kernel_rfl) (CR _ l hl [44] 4 rfl (by decide) r (by omega)) ⟨rfl,trivial⟩ trivial ⟨(kn rfl),⟨(kn rfl),trivial⟩⟩ (fun _ _ _ h=>PY.tidy h.1 h.2.1 h.2.2) ?_
 rintro _ _ _ ⟨rfl,rfl,rfl⟩
 refine AB (DL rfl (kn rfl)) ?_
 refine A6 ?_
 try refine A0 ?_
 refine AO rfl (fun h=>?_) (fun h=>?_)
 ·have h1:=J0 h
  rw[if_neg (by rw[h1];decide)]at hw
  rw[h1]
  try refine A0 ?_
  refine A8 ?_
  refine AJ ?_
  refine AJ ?_
  refine AB (AC (ds:=[_]) [(0,_)] rfl ⟨rfl,(kn rfl),trivial⟩ rfl sl_54 sz_9 zr_9 (fun w D=>.cons (.cell _) (.nil _ _)) rfl rfl rfl rfl rfl) ?_
  refine AH rfl rfl rfl rfl (by kernel_rfl) (D4 E8 E9 l hl 4 [93] rfl (by decide) r (by omega)) ⟨rfl,trivial⟩ trivial ⟨(kn rfl),⟨(kn rfl),trivial⟩⟩ (PE.tidy) ?_
  rintro _ _ _ (⟨a,b,z,he,rfl,rfl,rfl⟩ | ⟨z,hz,rfl,rfl,rfl⟩)
  ·refine AG ?_
   refine A6 ?_
   try refine A0 ?_
   exact A7 (fB4 l g z) ([]) rfl (.tmp (kn rfl) (.nil)) (Imp.refl _) ⟨s_b,s_b,s_b,trivial⟩ trivial (.inl ⟨a,b,z,g,by rw[hw,he],rfl,rfl,rfl⟩)
  ·refine AG ?_
   refine A6 ?_
   try refine A0 ?_
   exact A7 (fB4 l g z) ([]) rfl (.tmp (kn rfl) (.nil)) (Imp.refl _) ⟨s_b,s_b,s_b,trivial⟩ trivial (.inr ⟨g,z,by rw[hw,hz],rfl,rfl,rfl⟩)
 have h1:=IB h
 have hlt:=B7 h1
 rw[if_pos h1]at hw
 rw[h1]
 try refine A0 ?_
 refine BB ⟨(m,g,r+1),by omega,by dsimp only;omega,by dsimp only;omega,hw⟩ (by dsimp only;omega) (fun K=>B8 ⟨s_t,s_t,s_t,trivial⟩ ⟨s_b,s_b,s_b,trivial⟩ trivial)
abbrev pmX(m:Msg):Bx:=⟨204,[.is (.string (str m.name)),.own 100,.own 101,.own 102,.own 103,.own 104,.own 105,.is (.int .i64 m.line),.is (.int .i64 m.col)]⟩
abbrev pmR(m:Msg):RL:=[(100,⟨210,10,m.fields.length,m.fields.flatMap Fld.dats,false⟩),(101,⟨9,1,m.oneofs.length,m.oneofs.flatMap textDats,false⟩),(102,⟨204,9,m.msgs.length,m.msgs.flatMap Msg.dats,false⟩),(103,⟨200,4,m.enums.length,m.enums.flatMap Enm.dats,false⟩),(104,⟨353,2,m.reserved.length,m.reserved.flatMap rangeDats,false⟩),(105,⟨9,1,m.names.length,m.names.flatMap textDats,false⟩)]
abbrev mS(l:List Tk)(m:Msg)(q:Nat):BL:=[(1,pX l q),(3,pmX m)]
abbrev NE(l:List Tk)(E8 E9:Er)(r:AZ (Msg×Nat))(y:IV)(B1:BL)(R1:RL):Prop:=ME l E8 E9 (mS l) pmR r y B1 R1
theorem NE.tidy{l:List Tk}{E8 E9:Er}{r:AZ (Msg×Nat)}{m:Msg}{q:Nat}(y:IV)(B1:BL)(R1:RL)(h:NE l E8 E9 r y B1 R1):H0 (mS l m q) (pmR m) y B1 R1:=by
 rcases h with⟨a,b,z,x,_,rfl,rfl,rfl⟩ | ⟨x,z,_,rfl,rfl,rfl⟩<;>exact⟨rfl,rfl,rfl,rfl⟩
def BX(m:Msg)(r:AZ (Fld×Nat)):AZ (Msg×Nat):=
 match r with
 | .error e=>.error e
 | .ok (g,q)=>.ok (m.addField g,q)
set_option maxHeartbeats 4000000 in
theorem Q11(E8 E9:Er)(l:List Tk)(hl:PTk l)(m:Msg)(hm:m.fields.length<=100000000000)(f:Fld)(p:Nat)(hp:p<=100000):EG Tryz.prog (gE E8 E9) 234 [.box 1 0,.box 3 0,.part (.many f.dats)] (mS l m p) (pmR m) (NE l E8 E9 (BX m (H6 l f p))):=by
 obtain⟨nm,fs,os,ms,es,rs,ns,ln,cl⟩:=m
 have hm1:fs.length<=100000000000:=hm
 refine B4 72 Tryz.func234 rfl rfl rfl fun w D bor mb=>?_
 try refine A0 ?_
 have hll:=hl.len
 refine A8 ?_
 refine IQ 4 rfl rfl rfl rfl (kn rfl) rfl rfl rfl rfl rfl ?_
 refine DZ 2 rfl rfl rfl rfl (kn rfl) rfl rfl rfl rfl ?_
 refine AG ?_
 refine A6 ?_
 try refine A0 ?_
 refine A8 ?_
 refine AB (A4 rfl (kn rfl) rfl rfl one_183) ?_
 refine AH rfl rfl rfl rfl (by kernel_rfl) (DB E8 E9 l hl.toTksOk (p) 1 (by omega)) ⟨rfl,trivial⟩ trivial ⟨(kn rfl),⟨(kn rfl),trivial⟩⟩ (TY.tidy) ?_
 rintro _ _ _ (⟨hk,rfl,rfl,rfl⟩ | ⟨hk,rfl,rfl,rfl⟩)
 ·refine AJ ?_
  refine B3 ?_
  refine B3 ?_
  refine AS 7 [.is (.int .i64 0),.is (.string ⟨#[]⟩),.is (.int .i64 0),.is (.int .i64 0),.is (.int .i64 0)] rfl rfl rfl rfl zr_128 (fun w D M V=>⟨rfl,fun j x v h1 h2=>AR _ h1 h2 rfl⟩) rfl rfl rfl rfl ?_
  refine AI rfl rfl rfl (kn rfl) rfl (kn rfl) rfl rfl sz_128 ?_
  refine AG ?_
  refine A6 ?_
  try refine A0 ?_
  refine A1 (AA rfl rfl rfl rfl rfl (A5 rfl rfl rfl (AP rfl (kn rfl) rfl ifc_28) .nil)) ?_
  try refine A0 ?_
  refine BD ?_
  try refine A0 ?_
  refine A1 (AA rfl rfl rfl rfl rfl (AE rfl rfl rfl rfl rfl .nil)) ?_
  try refine A0 ?_
  exact A7 (mS l (.mk nm fs os ms es rs ns ln cl) p) (pmR (.mk nm fs os ms es rs ns ln cl)) rfl (.tmp (kn rfl) (.nil)) (Imp.refl _) ⟨s_b,s_b,trivial⟩ ⟨rfl,rfl,rfl,rfl,rfl,rfl,trivial⟩ (.inl ⟨p,9,p,_,by simp only[BX,H6,DY hk],rfl,rfl,rfl⟩)
 refine AJ ?_
 refine B3 ?_
 refine B3 ?_
 refine AS 7 [.is (.int .i64 0),.is (.string ⟨#[]⟩),.is (.int .i64 0),.is (.int .i64 0),.is (.int .i64 0)] rfl rfl rfl rfl zr_128 (fun w D M V=>⟨rfl,fun j x v h1 h2=>AR _ h1 h2 rfl⟩) rfl rfl rfl rfl ?_
 refine AI rfl rfl rfl (kn rfl) rfl (kn rfl) rfl rfl sz_128 ?_
 refine AG ?_
 refine A6 ?_
 try refine A0 ?_
 refine A1 (AA rfl rfl rfl rfl rfl (A5 rfl rfl rfl (AQ rfl (kn rfl) ifc_28) .nil)) ?_
 try refine A0 ?_
 refine C1 ?_
 try refine A0 ?_
 obtain⟨hlt0,hx⟩:=G4 hk
 refine QX [(2,[some _,none,none,none,none,none,none,none,some _,some _])] mixed (by kernel_rfl) (WalkM.op rfl rfl rfl (A3 rfl (kn rfl) off_128_1) (WalkM.op rfl rfl rfl (A4 rfl (kn rfl) rfl rfl one_9) (WalkM.op rfl rfl rfl (A3 rfl (kn rfl) off_128_3) (WalkM.op rfl rfl rfl (A4 rfl (kn rfl) rfl rfl one_3) (WalkM.op rfl rfl rfl (A3 rfl (kn rfl) off_128_4) (WalkM.op rfl rfl rfl (A4 rfl (kn rfl) rfl rfl one_3) (WalkM.op rfl rfl rfl (A3 rfl (kn rfl) off_210_0) (WalkM.st1 rfl rfl rfl (kn rfl) rfl rfl (kn rfl) rfl rfl rfl sz_9 (WalkM.op rfl rfl rfl (A3 rfl (kn rfl) off_210_8) (WalkM.st1 rfl rfl rfl (kn rfl) rfl rfl (kn rfl) rfl rfl rfl sz_3 (WalkM.op rfl rfl rfl (A3 rfl (kn rfl) off_210_9) (WalkM.st1 rfl rfl rfl (kn rfl) rfl rfl (kn rfl) rfl rfl rfl sz_3 (WalkM.nil))))))))))))) rfl ?_
 try refine A0 ?_
 refine A8 ?_
 refine AB (A4 rfl (kn rfl) rfl rfl one_183) ?_
 refine AB (AC (ds:=[_]) [(0,_)] rfl ⟨rfl,(kn rfl),trivial⟩ rfl sl_54 sz_9 zr_9 (fun w D=>.cons (.cell _) (.nil _ _)) rfl rfl rfl rfl rfl) ?_
 refine AH rfl rfl rfl rfl (by kernel_rfl) (D4 E8 E9 l hl 4 [61] rfl (by decide) (p+1) (by omega)) ⟨rfl,trivial⟩ trivial ⟨(kn rfl),⟨(kn rfl),trivial⟩⟩ (PE.tidy) ?_
 rintro _ _ _ (⟨a,b,z,he,rfl,rfl,rfl⟩ | ⟨q,ho,rfl,rfl,rfl⟩)
 ·refine AG ?_
  refine A6 ?_
  try refine A0 ?_
  refine A1 (AA rfl rfl rfl rfl rfl (A5 rfl rfl rfl (AP rfl (kn rfl) rfl ifc_28) .nil)) ?_
  try refine A0 ?_
  refine BD ?_
  try refine A0 ?_
  refine A1 (AA rfl rfl rfl rfl rfl (AE rfl rfl rfl rfl rfl .nil)) ?_
  try refine A0 ?_
  exact A7 (mS l (.mk nm fs os ms es rs ns ln cl) z) (pmR (.mk nm fs os ms es rs ns ln cl)) rfl (.tmp (kn rfl) (.nil)) (Imp.refl _) ⟨s_b,s_b,trivial⟩ ⟨rfl,rfl,rfl,rfl,rfl,rfl,trivial⟩ (.inl ⟨a,b,z,_,by simp only[BX,H6,hx,he],rfl,rfl,rfl⟩)
 refine AG ?_
 refine A6 ?_
 try refine A0 ?_
 refine A1 (AA rfl rfl rfl rfl rfl (A5 rfl rfl rfl (AQ rfl (kn rfl) ifc_28) .nil)) ?_
 try refine A0 ?_
 refine C1 ?_
 try refine A0 ?_
 have ho1:=BA ho
 refine A8 ?_
 refine AB (A4 rfl (kn rfl) rfl rfl one_183) ?_
 refine AH rfl rfl rfl rfl (by kernel_rfl) (DB E8 E9 l hl.toTksOk (q) 2 (by omega)) ⟨rfl,trivial⟩ trivial ⟨(kn rfl),⟨(kn rfl),trivial⟩⟩ (TY.tidy) ?_
 rintro _ _ _ (⟨hk2,rfl,rfl,rfl⟩ | ⟨hk2,rfl,rfl,rfl⟩)
 ·refine AJ ?_
  refine B3 ?_
  refine B3 ?_
  refine AS 10 [.is (.int .i64 0),.is (.string ⟨#[]⟩),.is (.int .i64 0),.is (.int .i64 0),.is (.int .i64 0)] rfl rfl rfl rfl zr_128 (fun w D M V=>⟨rfl,fun j x v h1 h2=>AR _ h1 h2 rfl⟩) rfl rfl rfl rfl ?_
  refine AI rfl rfl rfl (kn rfl) rfl (kn rfl) rfl rfl sz_128 ?_
  refine AG ?_
  refine A6 ?_
  try refine A0 ?_
  refine A1 (AA rfl rfl rfl rfl rfl (A5 rfl rfl rfl (AP rfl (kn rfl) rfl ifc_28) .nil)) ?_
  try refine A0 ?_
  refine BD ?_
  try refine A0 ?_
  refine A1 (AA rfl rfl rfl rfl rfl (AE rfl rfl rfl rfl rfl .nil)) ?_
  try refine A0 ?_
  exact A7 (mS l (.mk nm fs os ms es rs ns ln cl) q) (pmR (.mk nm fs os ms es rs ns ln cl)) rfl (.tmp (kn rfl) (.nil)) (Imp.refl _) ⟨s_b,s_b,trivial⟩ ⟨rfl,rfl,rfl,rfl,rfl,rfl,trivial⟩ (.inl ⟨q,9,q,_,by simp only[BX,H6,hx,ho,GZ hk2],rfl,rfl,rfl⟩)
 refine AJ ?_
 refine B3 ?_
 refine B3 ?_
 refine AS 10 [.is (.int .i64 0),.is (.string ⟨#[]⟩),.is (.int .i64 0),.is (.int .i64 0),.is (.int .i64 0)] rfl rfl rfl rfl zr_128 (fun w D M V=>⟨rfl,fun j x v h1 h2=>AR _ h1 h2 rfl⟩) rfl rfl rfl rfl ?_
 refine AI rfl rfl rfl (kn rfl) rfl (kn rfl) rfl rfl sz_128 ?_
 refine AG ?_
 refine A6 ?_
 try refine A0 ?_
 refine A1 (AA rfl rfl rfl rfl rfl (A5 rfl rfl rfl (AQ rfl (kn rfl) ifc_28) .nil)) ?_
 try refine A0 ?_
 refine C1 ?_
 try refine A0 ?_
 obtain⟨hlt1,hn⟩:=J2 hk2
 have hw:H6 l f p=E0 l { f with name:=(tkAt l p).1.t,line:=(tkAt l p).2.1,col:=(tkAt l p).2.2,number:=((tkAt l q).1.n:Int) } (q+1):=by simp only[H6,hx,ho,hn]
 obtain⟨f2,hf2⟩:∃ f2:Fld,f2={ f with name:=(tkAt l p).1.t,line:=(tkAt l p).2.1,col:=(tkAt l p).2.2,number:=((tkAt l q).1.n:Int) }:=⟨_,rfl⟩
 refine A8 ?_
 refine AB (A3 rfl (kn rfl) off_128_2) ?_
 refine AB (A4 rfl (kn rfl) rfl rfl one_3) ?_
 refine AB (A3 rfl (kn rfl) off_210_5) ?_
 refine C3 rfl rfl rfl (kn rfl) rfl (kn rfl) rfl rfl sz_3 rfl ?_
 refine A6 ?_
 try refine A0 ?_
 refine Q6t 2 (bcs f2.dats) rfl (by rw[hf2];exact ImpL.refl _) ?_
 rw[<- hf2]at hw
 refine A8 ?_
 refine AB (A4 rfl (kn rfl) rfl rfl one_183) ?_
 refine AB (AC (ds:=[_]) [(0,_)] rfl ⟨rfl,(kn rfl),trivial⟩ rfl sl_54 sz_9 zr_9 (fun w D=>.cons (.cell _) (.nil _ _)) rfl rfl rfl rfl rfl) ?_
 refine AH rfl rfl rfl rfl (by kernel_rfl) (CR _ l hl [91] 4 rfl (by decide) (q+1) (by omega)) ⟨rfl,trivial⟩ trivial ⟨(kn rfl),⟨(kn rfl),trivial⟩⟩ (fun _ _ _ h=>PY.tidy h.1 h.2.1 h.2.2) ?_
 rintro _ _ _ ⟨rfl,rfl,rfl⟩
 refine A6 ?_
 try refine A0 ?_
 refine AO rfl (fun h=>?_) (fun h=>?_)
 ·have hlt2:=B7 h
  rw[W6 h]at hw
  rw[h]
  try refine A0 ?_
  refine A8 ?_
  refine AB (A4 rfl (kn rfl) rfl rfl one_183) ?_
  refine AB (HM (fs:=[]) (cs:=[.box 4 0,.box 2 0]) rfl trivial ⟨(kn rfl),(kn rfl),trivial⟩) ?_
  refine AH rfl rfl rfl rfl (by kernel_rfl) (Q4M E8 E9 l hl f2 (q+1+1) (by omega)) ⟨rfl,rfl,rfl,trivial⟩ trivial ⟨(kn rfl),⟨(kn rfl),⟨(kn rfl),trivial⟩⟩⟩ (FE4.tidy) ?_
  rintro _ _ _ (⟨a,b,z,g,he,rfl,rfl,rfl⟩ | ⟨g,r,hr,rfl,rfl,rfl⟩)
  ·refine AG ?_
   refine A6 ?_
   try refine A0 ?_
   refine A1 (AA rfl rfl rfl rfl rfl (A5 rfl rfl rfl (AP rfl (kn rfl) rfl ifc_28) .nil)) ?_
   try refine A0 ?_
   refine BD ?_
   try refine A0 ?_
   refine A1 (AA rfl rfl rfl rfl rfl (AE rfl rfl rfl rfl rfl .nil)) ?_
   try refine A0 ?_
   exact A7 (mS l (.mk nm fs os ms es rs ns ln cl) z) (pmR (.mk nm fs os ms es rs ns ln cl)) rfl (.tmp (kn rfl) (.nil)) (Imp.refl _) ⟨s_b,s_b,trivial⟩ ⟨rfl,rfl,rfl,rfl,rfl,rfl,trivial⟩ (.inl ⟨a,b,z,_,by simp only[BX,hw,he],rfl,rfl,rfl⟩)
  have hr1:=Q1X _ _ _ hr
  refine AG ?_
  refine A6 ?_
  try refine A0 ?_
  refine A1 (AA rfl rfl rfl rfl rfl (A5 rfl rfl rfl (AQ rfl (kn rfl) ifc_28) .nil)) ?_
  try refine A0 ?_
  refine C1 ?_
  try refine A0 ?_
  refine A8 ?_
  refine AB (A4 rfl (kn rfl) rfl rfl one_183) ?_
  refine AB (AC (ds:=[_]) [(0,_)] rfl ⟨rfl,(kn rfl),trivial⟩ rfl sl_54 sz_9 zr_9 (fun w D=>.cons (.cell _) (.nil _ _)) rfl rfl rfl rfl rfl) ?_
  refine AH rfl rfl rfl rfl (by kernel_rfl) (D4 E8 E9 l hl 4 [59] rfl (by decide) (r) (by omega)) ⟨rfl,trivial⟩ trivial ⟨(kn rfl),⟨(kn rfl),trivial⟩⟩ (PE.tidy) ?_
  rintro _ _ _ (⟨a,b,z,he,rfl,rfl,rfl⟩ | ⟨z,hz,rfl,rfl,rfl⟩)
  ·refine AG ?_
   refine A6 ?_
   try refine A0 ?_
   refine A1 (AA rfl rfl rfl rfl rfl (A5 rfl rfl rfl (AP rfl (kn rfl) rfl ifc_28) .nil)) ?_
   try refine A0 ?_
   refine BD ?_
   try refine A0 ?_
   refine A1 (AA rfl rfl rfl rfl rfl (AE rfl rfl rfl rfl rfl .nil)) ?_
   try refine A0 ?_
   exact A7 (mS l (.mk nm fs os ms es rs ns ln cl) z) (pmR (.mk nm fs os ms es rs ns ln cl)) rfl (.tmp (kn rfl) (.nil)) (Imp.refl _) ⟨s_b,s_b,trivial⟩ ⟨rfl,rfl,rfl,rfl,rfl,rfl,trivial⟩ (.inl ⟨a,b,z,_,by simp only[BX,hw,hr,he],rfl,rfl,rfl⟩)
  refine AG ?_
  refine A6 ?_
  try refine A0 ?_
  refine A1 (AA rfl rfl rfl rfl rfl (A5 rfl rfl rfl (AQ rfl (kn rfl) ifc_28) .nil)) ?_
  try refine A0 ?_
  refine C1 ?_
  try refine A0 ?_
  refine CD 7 mixed (by kernel_rfl) rfl rfl rfl rfl (kn rfl) (fun _ _ _ _ h=>h) (AA rfl rfl rfl rfl rfl (A5 rfl rfl rfl (AL rfl (kn rfl)) (A5 rfl rfl rfl (A3 rfl (kn rfl) off_204_1) (A5 rfl rfl rfl (A4 rfl (kn rfl) rfl rfl one_201) (A5 rfl rfl rfl (AT (ds:=[_,_,_,_,_,_,_,_,_,_]) 10 rfl (kn rfl) rfl rfl agg_210 sz_210 rfl) (A5 rfl rfl rfl (AC (ds:=[_,_,_,_,_,_,_,_,_,_]) [(0,_)] rfl ⟨rfl,(kn rfl),trivial⟩ rfl sl_201 sz_210 zr_210 (fun w D=>.cons (.cell _) (.cons (.cell _) (.cons (.cell _) (.cons (.cell _) (.cons (.cell _) (.cons (.cell _) (.cons (.cell _) (.cons (.cell _) (.cons (.cell _) (.cons (.cell _) (.nil _ _))))))))))) rfl rfl rfl rfl rfl) .nil)))))) ?_
  refine BV rfl rfl rfl rfl (kn rfl) rfl (kn rfl) sl_201 ap_201 rfl rfl (by first | omega | (dsimp only;omega)) (by first | omega | (dsimp only;omega)) ?_
  refine AB (AL rfl (kn rfl)) ?_
  refine AB (A3 rfl (kn rfl) off_204_1) ?_
  refine B6 rfl rfl rfl (kn rfl) rfl (kn rfl) rfl rfl sz_201 rfl ?_
  refine A6 ?_
  try refine A0 ?_
  refine A1 (AE rfl rfl rfl rfl rfl .nil) ?_
  try refine A0 ?_
  exact A7 (mS l ((Msg.mk nm fs os ms es rs ns ln cl).addField g) z) (pmR ((Msg.mk nm fs os ms es rs ns ln cl).addField g)) rfl (.tmp (kn rfl) (.nil)) (Imp.refl _) ⟨s_b,s_b,trivial⟩ ⟨E4 rfl (by simp[Msg.addField,Msg.fields]) (by simp[Msg.addField,Msg.fields,List.flatMap_append,Fld.dats,Fld.cells]),rfl,rfl,rfl,rfl,rfl,trivial⟩ (.inr ⟨(Msg.mk nm fs os ms es rs ns ln cl).addField g,z,by simp only[BX,hw,hr,hz],rfl,rfl,rfl⟩)
 ·rw[TM h]at hw
  rw[h]
  try refine A0 ?_
  refine A8 ?_
  refine AB (A4 rfl (kn rfl) rfl rfl one_183) ?_
  refine AB (AC (ds:=[_]) [(0,_)] rfl ⟨rfl,(kn rfl),trivial⟩ rfl sl_54 sz_9 zr_9 (fun w D=>.cons (.cell _) (.nil _ _)) rfl rfl rfl rfl rfl) ?_
  refine AH rfl rfl rfl rfl (by kernel_rfl) (D4 E8 E9 l hl 4 [59] rfl (by decide) (q+1) (by omega)) ⟨rfl,trivial⟩ trivial ⟨(kn rfl),⟨(kn rfl),trivial⟩⟩ (PE.tidy) ?_
  rintro _ _ _ (⟨a,b,z,he,rfl,rfl,rfl⟩ | ⟨z,hz,rfl,rfl,rfl⟩)
  ·refine AG ?_
   refine A6 ?_
   try refine A0 ?_
   refine A1 (AA rfl rfl rfl rfl rfl (A5 rfl rfl rfl (AP rfl (kn rfl) rfl ifc_28) .nil)) ?_
   try refine A0 ?_
   refine BD ?_
   try refine A0 ?_
   refine A1 (AA rfl rfl rfl rfl rfl (AE rfl rfl rfl rfl rfl .nil)) ?_
   try refine A0 ?_
   exact A7 (mS l (.mk nm fs os ms es rs ns ln cl) z) (pmR (.mk nm fs os ms es rs ns ln cl)) rfl (.tmp (kn rfl) (.nil)) (Imp.refl _) ⟨s_b,s_b,trivial⟩ ⟨rfl,rfl,rfl,rfl,rfl,rfl,trivial⟩ (.inl ⟨a,b,z,_,by simp only[BX,hw,hn,he],rfl,rfl,rfl⟩)
  refine AG ?_
  refine A6 ?_
  try refine A0 ?_
  refine A1 (AA rfl rfl rfl rfl rfl (A5 rfl rfl rfl (AQ rfl (kn rfl) ifc_28) .nil)) ?_
  try refine A0 ?_
  refine C1 ?_
  try refine A0 ?_
  refine CD 7 mixed (by kernel_rfl) rfl rfl rfl rfl (kn rfl) (fun _ _ _ _ h=>h) (AA rfl rfl rfl rfl rfl (A5 rfl rfl rfl (AL rfl (kn rfl)) (A5 rfl rfl rfl (A3 rfl (kn rfl) off_204_1) (A5 rfl rfl rfl (A4 rfl (kn rfl) rfl rfl one_201) (A5 rfl rfl rfl (AT (ds:=[_,_,_,_,_,_,_,_,_,_]) 10 rfl (kn rfl) rfl rfl agg_210 sz_210 rfl) (A5 rfl rfl rfl (AC (ds:=[_,_,_,_,_,_,_,_,_,_]) [(0,_)] rfl ⟨rfl,(kn rfl),trivial⟩ rfl sl_201 sz_210 zr_210 (fun w D=>.cons (.cell _) (.cons (.cell _) (.cons (.cell _) (.cons (.cell _) (.cons (.cell _) (.cons (.cell _) (.cons (.cell _) (.cons (.cell _) (.cons (.cell _) (.cons (.cell _) (.nil _ _))))))))))) rfl rfl rfl rfl rfl) .nil)))))) ?_
  refine BV rfl rfl rfl rfl (kn rfl) rfl (kn rfl) sl_201 ap_201 rfl rfl (by first | omega | (dsimp only;omega)) (by first | omega | (dsimp only;omega)) ?_
  refine AB (AL rfl (kn rfl)) ?_
  refine AB (A3 rfl (kn rfl) off_204_1) ?_
  refine B6 rfl rfl rfl (kn rfl) rfl (kn rfl) rfl rfl sz_201 rfl ?_
  refine A6 ?_
  try refine A0 ?_
  refine A1 (AE rfl rfl rfl rfl rfl .nil) ?_
  try refine A0 ?_
  exact A7 (mS l ((Msg.mk nm fs os ms es rs ns ln cl).addField f2) z) (pmR ((Msg.mk nm fs os ms es rs ns ln cl).addField f2)) rfl (.tmp (kn rfl) (.nil)) (Imp.refl _) ⟨s_b,s_b,trivial⟩ ⟨E4 rfl (by simp[Msg.addField,Msg.fields]) (by simp[Msg.addField,Msg.fields,List.flatMap_append,Fld.dats,Fld.cells]),rfl,rfl,rfl,rfl,rfl,trivial⟩ (.inr ⟨(Msg.mk nm fs os ms es rs ns ln cl).addField f2,z,by simp only[BX,hw,hn,hz],rfl,rfl,rfl⟩)
def JP(l:List Tk)(f:Fld)(p:Nat):AZ (Fld×Nat):=
 match CX l true p with
 | .error e=>.error e
 | .ok (s,q)=>H6 l { f with type:=s } q
theorem PU(E8 E9:Er)(l:List Tk)(hl:PTk l)(m:Msg)(hm:Small m 100000000000)(f:Fld)(p:Nat)(hp:p<=100000):EG Tryz.prog (gE E8 E9) 207 [.box 1 0,.box 3 0,.part (.many f.dats)] (mS l m p) (pmR m) (NE l E8 E9 (BX m (JP l f p))):=by
 refine B4 21 Tryz.func207 rfl rfl rfl fun w D bor mb=>?_
 try refine A0 ?_
 have hll:=hl.len
 refine A8 ?_
 refine DZ 5 rfl rfl rfl rfl (kn rfl) rfl rfl rfl rfl ?_
 refine AG ?_
 refine A6 ?_
 try refine A0 ?_
 refine A1 (AE rfl rfl rfl rfl rfl .nil) ?_
 try refine A0 ?_
 refine A8 ?_
 refine AJ ?_
 refine AH rfl rfl rfl rfl (by kernel_rfl) (S0 E8 E9 l hl (p) (by omega)) ⟨rfl,trivial⟩ trivial ⟨(kn rfl),trivial⟩ (QE.tidy) ?_
 rintro _ _ _ (⟨a,b,z,s,_,he,rfl,rfl,rfl⟩ | ⟨s,q,hs,rfl,rfl,rfl⟩)
 ·refine AJ ?_
  refine B3 ?_
  refine B3 ?_
  refine AB (A3 rfl (kn rfl) off_210_1) ?_
  refine C3 rfl rfl rfl (kn rfl) rfl (kn rfl) rfl rfl sz_9 rfl ?_
  refine AG ?_
  refine A6 ?_
  try refine A0 ?_
  refine A1 (AA rfl rfl rfl rfl rfl (A5 rfl rfl rfl (AP rfl (kn rfl) rfl ifc_28) .nil)) ?_
  try refine A0 ?_
  refine BD ?_
  try refine A0 ?_
  refine A1 (AA rfl rfl rfl rfl rfl (AE rfl rfl rfl rfl rfl .nil)) ?_
  try refine A0 ?_
  exact A7 (mS l m z) (pmR m) rfl (.tmp (kn rfl) (.nil)) (Imp.refl _) ⟨s_b,s_b,trivial⟩ ⟨rfl,rfl,rfl,rfl,rfl,rfl,trivial⟩ (.inl ⟨a,b,z,m,by simp only[BX,JP,he],rfl,rfl,rfl⟩)
 refine AJ ?_
 refine B3 ?_
 refine B3 ?_
 refine AB (A3 rfl (kn rfl) off_210_1) ?_
 refine C3 rfl rfl rfl (kn rfl) rfl (kn rfl) rfl rfl sz_9 rfl ?_
 refine AG ?_
 refine A6 ?_
 try refine A0 ?_
 refine A1 (AA rfl rfl rfl rfl rfl (A5 rfl rfl rfl (AQ rfl (kn rfl) ifc_28) .nil)) ?_
 try refine A0 ?_
 refine C1 ?_
 try refine A0 ?_
 have hs1:=F4 hs
 refine A8 ?_
 refine AJ ?_
 refine AJ ?_
 refine AB (AT (ds:=[_,_,_,_,_,_,_,_,_,_]) 10 rfl (kn rfl) rfl rfl agg_210 sz_210 rfl) ?_
 refine AH rfl rfl rfl rfl (by kernel_rfl) (Q11 E8 E9 l hl m hm.1 { f with type:=s } (q) (by omega)) ⟨rfl,rfl,trivial⟩ ⟨rfl,rfl,rfl,rfl,rfl,rfl,trivial⟩ ⟨(kn rfl),⟨(kn rfl),⟨(kn rfl),trivial⟩⟩⟩ (NE.tidy) ?_
 rintro _ _ _ (⟨a,b,z,x,he,rfl,rfl,rfl⟩ | ⟨x,z,hz,rfl,rfl,rfl⟩)
 ·refine AG ?_
  refine A6 ?_
  try refine A0 ?_
  exact A7 (mS l x z) (pmR x) rfl (.tmp (kn rfl) (.nil)) (Imp.refl _) ⟨s_b,s_b,trivial⟩ ⟨rfl,rfl,rfl,rfl,rfl,rfl,trivial⟩ (.inl ⟨a,b,z,x,by rw[<- he];simp only[BX,JP,hs],rfl,rfl,rfl⟩)
 ·refine AG ?_
  refine A6 ?_
  try refine A0 ?_
  exact A7 (mS l x z) (pmR x) rfl (.tmp (kn rfl) (.nil)) (Imp.refl _) ⟨s_b,s_b,trivial⟩ ⟨rfl,rfl,rfl,rfl,rfl,rfl,trivial⟩ (.inr ⟨x,z,by rw[<- hz];simp only[BX,JP,hs],rfl,rfl,rfl⟩)
set_option maxHeartbeats 1000000 in
theorem Q0A(E8 E9:Er)(l:List Tk)(hl:PTk l)(m:Msg)(hm:Small m 100000000000)(p:Nat)(hp:p<=100000)(hlt:tkIs l p 4 [60]=true):EG Tryz.prog (gE E8 E9) 208 [.box 1 0,.box 3 0] (mS l m (p+1)) (pmR m) (NE l E8 E9 (BX m (DS l p))):=by
 refine B4 47 Tryz.func208 rfl rfl rfl fun w D bor mb=>?_
 try refine A0 ?_
 have hll:=hl.len
 have hlt1:=B7 hlt
 have h0:BK l 4 [60] p=.ok (p+1):=by unfold BK;rw[if_pos hlt]
 refine A1 (AE rfl rfl rfl rfl rfl .nil) ?_
 try refine A0 ?_
 refine A8 ?_
 refine AB (B9 (ds:=[_,_,_,_,_,_,_,_,_,_]) [(4,_)] rfl ⟨rfl,(kn rfl),trivial⟩ rfl pl_210 zr_210 (fun w D=>.cons (.cell _) (.cons (.cell _) (.cons (.cell _) (.cons (.cell _) (.cons (.cell _) (.cons (.cell _) (.cons (.cell _) (.cons (.cell _) (.cons (.cell _) (.cons (.cell _) (.nil _ _))))))))))) rfl) ?_
 refine AS 5 [.is (.string ⟨#[]⟩),.is (.string ⟨#[]⟩),.is (.string ⟨#[]⟩),.is (.string ⟨#[]⟩),.is (.int .i64 0),.is (.int .i64 0),.is (.int .i64 0),.is (.int .i64 0),.is (.int .i64 0),.is (.int .i64 0)] rfl rfl rfl rfl zr_210 (fun w D M V=>⟨rfl,fun j x v h1 h2=>AR _ h1 h2 rfl⟩) rfl rfl rfl rfl ?_
 refine AI rfl rfl rfl (kn rfl) rfl (kn rfl) rfl rfl sz_210 ?_
 refine A6 ?_
 try refine A0 ?_
 refine A8 ?_
 refine AJ ?_
 refine AH rfl rfl rfl rfl (by kernel_rfl) (DB E8 E9 l hl.toTksOk (p+1) 1 (by omega)) ⟨rfl,trivial⟩ trivial ⟨(kn rfl),⟨(kn rfl),trivial⟩⟩ (TY.tidy) ?_
 rintro _ _ _ (⟨hk,rfl,rfl,rfl⟩ | ⟨hk,rfl,rfl,rfl⟩)
 ·refine AJ ?_
  refine B3 ?_
  refine B3 ?_
  refine AS 6 [.is (.int .i64 0),.is (.string ⟨#[]⟩),.is (.int .i64 0),.is (.int .i64 0),.is (.int .i64 0)] rfl rfl rfl rfl zr_128 (fun w D M V=>⟨rfl,fun j x v h1 h2=>AR _ h1 h2 rfl⟩) rfl rfl rfl rfl ?_
  refine AI rfl rfl rfl (kn rfl) rfl (kn rfl) rfl rfl sz_128 ?_
  refine AG ?_
  refine A6 ?_
  try refine A0 ?_
  refine A1 (AA rfl rfl rfl rfl rfl (A5 rfl rfl rfl (AP rfl (kn rfl) rfl ifc_28) .nil)) ?_
  try refine A0 ?_
  refine BD ?_
  try refine A0 ?_
  refine A1 (AA rfl rfl rfl rfl rfl (AE rfl rfl rfl rfl rfl .nil)) ?_
  try refine A0 ?_
  exact A7 (mS l m (p+1)) (pmR m) rfl (.tmp (kn rfl) (.nil)) (Imp.refl _) ⟨s_b,s_b,trivial⟩ ⟨rfl,rfl,rfl,rfl,rfl,rfl,trivial⟩ (.inl ⟨p+1,9,p+1,m,by simp only[BX,DS,h0,DY hk],rfl,rfl,rfl⟩)
 refine AJ ?_
 refine B3 ?_
 refine B3 ?_
 refine AS 6 [.is (.int .i64 0),.is (.string ⟨#[]⟩),.is (.int .i64 0),.is (.int .i64 0),.is (.int .i64 0)] rfl rfl rfl rfl zr_128 (fun w D M V=>⟨rfl,fun j x v h1 h2=>AR _ h1 h2 rfl⟩) rfl rfl rfl rfl ?_
 refine AI rfl rfl rfl (kn rfl) rfl (kn rfl) rfl rfl sz_128 ?_
 refine AG ?_
 refine A6 ?_
 try refine A0 ?_
 refine A1 (AA rfl rfl rfl rfl rfl (A5 rfl rfl rfl (AQ rfl (kn rfl) ifc_28) .nil)) ?_
 try refine A0 ?_
 refine C1 ?_
 try refine A0 ?_
 obtain⟨hlt2,hx⟩:=G4 hk
 refine A8 ?_
 refine AB (A3 rfl (kn rfl) off_128_1) ?_
 refine AB (A4 rfl (kn rfl) rfl rfl one_9) ?_
 refine AB (A3 rfl (kn rfl) off_210_2) ?_
 refine C3 rfl rfl rfl (kn rfl) rfl (kn rfl) rfl rfl sz_9 rfl ?_
 refine A6 ?_
 try refine A0 ?_
 refine A8 ?_
 refine AJ ?_
 refine AB (AC (ds:=[_]) [(0,_)] rfl ⟨rfl,(kn rfl),trivial⟩ rfl sl_54 sz_9 zr_9 (fun w D=>.cons (.cell _) (.nil _ _)) rfl rfl rfl rfl rfl) ?_
 refine AH rfl rfl rfl rfl (by kernel_rfl) (D4 E8 E9 l hl 4 [44] rfl (by decide) (p+1+1) (by omega)) ⟨rfl,trivial⟩ trivial ⟨(kn rfl),⟨(kn rfl),trivial⟩⟩ (PE.tidy) ?_
 rintro _ _ _ (⟨a,b,z,he,rfl,rfl,rfl⟩ | ⟨q,ho,rfl,rfl,rfl⟩)
 ·refine AG ?_
  refine A6 ?_
  try refine A0 ?_
  refine A1 (AA rfl rfl rfl rfl rfl (A5 rfl rfl rfl (AP rfl (kn rfl) rfl ifc_28) .nil)) ?_
  try refine A0 ?_
  refine BD ?_
  try refine A0 ?_
  refine A1 (AA rfl rfl rfl rfl rfl (AE rfl rfl rfl rfl rfl .nil)) ?_
  try refine A0 ?_
  exact A7 (mS l m z) (pmR m) rfl (.tmp (kn rfl) (.nil)) (Imp.refl _) ⟨s_b,s_b,trivial⟩ ⟨rfl,rfl,rfl,rfl,rfl,rfl,trivial⟩ (.inl ⟨a,b,z,m,by simp only[BX,DS,h0,hx,he],rfl,rfl,rfl⟩)
 refine AG ?_
 refine A6 ?_
 try refine A0 ?_
 refine A1 (AA rfl rfl rfl rfl rfl (A5 rfl rfl rfl (AQ rfl (kn rfl) ifc_28) .nil)) ?_
 try refine A0 ?_
 refine C1 ?_
 try refine A0 ?_
 have ho1:=BA ho
 refine A8 ?_
 refine AJ ?_
 refine AH rfl rfl rfl rfl (by kernel_rfl) (S0 E8 E9 l hl (q) (by omega)) ⟨rfl,trivial⟩ trivial ⟨(kn rfl),trivial⟩ (QE.tidy) ?_
 rintro _ _ _ (⟨a,b,z,s,_,he,rfl,rfl,rfl⟩ | ⟨s,r,hs,rfl,rfl,rfl⟩)
 ·refine AJ ?_
  refine B3 ?_
  refine B3 ?_
  refine AB (A3 rfl (kn rfl) off_210_1) ?_
  refine C3 rfl rfl rfl (kn rfl) rfl (kn rfl) rfl rfl sz_9 rfl ?_
  refine AG ?_
  refine A6 ?_
  try refine A0 ?_
  refine A1 (AA rfl rfl rfl rfl rfl (A5 rfl rfl rfl (AP rfl (kn rfl) rfl ifc_28) .nil)) ?_
  try refine A0 ?_
  refine BD ?_
  try refine A0 ?_
  refine A1 (AA rfl rfl rfl rfl rfl (AE rfl rfl rfl rfl rfl .nil)) ?_
  try refine A0 ?_
  exact A7 (mS l m z) (pmR m) rfl (.tmp (kn rfl) (.nil)) (Imp.refl _) ⟨s_b,s_b,trivial⟩ ⟨rfl,rfl,rfl,rfl,rfl,rfl,trivial⟩ (.inl ⟨a,b,z,m,by simp only[BX,DS,h0,hx,ho,he],rfl,rfl,rfl⟩)
 refine AJ ?_
 refine B3 ?_
 refine B3 ?_
 refine AB (A3 rfl (kn rfl) off_210_1) ?_
 refine C3 rfl rfl rfl (kn rfl) rfl (kn rfl) rfl rfl sz_9 rfl ?_
 refine AG ?_
 refine A6 ?_
 try refine A0 ?_
 refine A1 (AA rfl rfl rfl rfl rfl (A5 rfl rfl rfl (AQ rfl (kn rfl) ifc_28) .nil)) ?_
 try refine A0 ?_
 refine C1 ?_
 try refine A0 ?_
 have hs1:=F4 hs
 refine A8 ?_
 refine AJ ?_
 refine AB (AC (ds:=[_]) [(0,_)] rfl ⟨rfl,(kn rfl),trivial⟩ rfl sl_54 sz_9 zr_9 (fun w D=>.cons (.cell _) (.nil _ _)) rfl rfl rfl rfl rfl) ?_
 refine AH rfl rfl rfl rfl (by kernel_rfl) (D4 E8 E9 l hl 4 [62] rfl (by decide) r (by omega)) ⟨rfl,trivial⟩ trivial ⟨(kn rfl),⟨(kn rfl),trivial⟩⟩ (PE.tidy) ?_
 rintro _ _ _ (⟨a,b,z,he,rfl,rfl,rfl⟩ | ⟨u,ho2,rfl,rfl,rfl⟩)
 ·refine AG ?_
  refine A6 ?_
  try refine A0 ?_
  refine A1 (AA rfl rfl rfl rfl rfl (A5 rfl rfl rfl (AP rfl (kn rfl) rfl ifc_28) .nil)) ?_
  try refine A0 ?_
  refine BD ?_
  try refine A0 ?_
  refine A1 (AA rfl rfl rfl rfl rfl (AE rfl rfl rfl rfl rfl .nil)) ?_
  try refine A0 ?_
  exact A7 (mS l m z) (pmR m) rfl (.tmp (kn rfl) (.nil)) (Imp.refl _) ⟨s_b,s_b,trivial⟩ ⟨rfl,rfl,rfl,rfl,rfl,rfl,trivial⟩ (.inl ⟨a,b,z,m,by simp only[BX,DS,h0,hx,ho,hs,he],rfl,rfl,rfl⟩)
 refine AG ?_
 refine A6 ?_
 try refine A0 ?_
 refine A1 (AA rfl rfl rfl rfl rfl (A5 rfl rfl rfl (AQ rfl (kn rfl) ifc_28) .nil)) ?_
 try refine A0 ?_
 refine C1 ?_
 try refine A0 ?_
 have ho3:=BA ho2
 refine A8 ?_
 refine AJ ?_
 refine AJ ?_
 refine AB (AT (ds:=[_,_,_,_,_,_,_,_,_,_]) 10 rfl (kn rfl) rfl rfl agg_210 sz_210 rfl) ?_
 refine AH rfl rfl rfl rfl (by kernel_rfl) (Q11 E8 E9 l hl m hm.1 { T6 4 0 with mapKey:=(tkAt l (p+1)).1.t,type:=s } (u) (by omega)) ⟨rfl,rfl,trivial⟩ ⟨rfl,rfl,rfl,rfl,rfl,rfl,trivial⟩ ⟨(kn rfl),⟨(kn rfl),⟨(kn rfl),trivial⟩⟩⟩ (NE.tidy) ?_
 rintro _ _ _ (⟨a,b,z,x,he,rfl,rfl,rfl⟩ | ⟨x,z,hz,rfl,rfl,rfl⟩)
 ·refine AG ?_
  refine A6 ?_
  try refine A0 ?_
  exact A7 (mS l x z) (pmR x) rfl (.tmp (kn rfl) (.nil)) (Imp.refl _) ⟨s_b,s_b,trivial⟩ ⟨rfl,rfl,rfl,rfl,rfl,rfl,trivial⟩ (.inl ⟨a,b,z,x,by rw[<- he];simp only[BX,DS,h0,hx,ho,hs,ho2],rfl,rfl,rfl⟩)
 ·refine AG ?_
  refine A6 ?_
  try refine A0 ?_
  exact A7 (mS l x z) (pmR x) rfl (.tmp (kn rfl) (.nil)) (Imp.refl _) ⟨s_b,s_b,trivial⟩ ⟨rfl,rfl,rfl,rfl,rfl,rfl,trivial⟩ (.inr ⟨x,z,by rw[<- hz];simp only[BX,DS,h0,hx,ho,hs,ho2],rfl,rfl,rfl⟩)
def DA(m:Msg)(r:AZ ((List (Int×Int)×List (List UInt8))×Nat)):AZ (Msg×Nat):=
 match r with
 | .error e=>.error e
 | .ok (g,q)=>.ok (m.addReserved g,q)
def JV(l:List Tk)(p:Nat):AZ ((List (Int×Int)×List (List UInt8))×Nat):=
 match I1 l p with
 | .error e=>.error e
 | .ok (t,q)=>.ok (([],[t]),q)
def I9(l:List Tk)(p:Nat):AZ ((List (Int×Int)×List (List UInt8))×Nat):=
 match H7 l p with
 | .error e=>.error e
 | .ok (x,q)=>.ok (([x],[]),q)
theorem L1(l:List Tk)(p:Nat):H7 l p=match D9 l p with
 | .error e=>.error e
 | .ok (n,q)=>if tkIs l q 1 [116,111]then(match SN l (q+1)with | .error e=>.error e | .ok (m,r)=>.ok ((n,m),r))else .ok ((n,n),q):=by
 unfold H7 SN
 cases D9 l p with
 | error e=>rfl
 | ok x=>
  obtain⟨n,q⟩:=x
  dsimp only
  split
  ·split<;>rfl
  ·rfl
theorem T3(E8 E9:Er)(l:List Tk)(hl:PTk l)(m:Msg)(hm:Small m 100000000000)(p:Nat)(hp:p<=100000):EG Tryz.prog (gE E8 E9) 230 [.box 1 0,.box 3 0] (mS l m p) (pmR m) (NE l E8 E9 (DA m (JV l p))):=by
 obtain⟨nm,fs,os,ms,es,rs,ns,ln,cl⟩:=m
 have hm1:(Msg.mk nm fs os ms es rs ns ln cl).names.length<=100000000000:=hm.2.2.2.2.2
 refine B4 26 Tryz.func230 rfl rfl rfl fun w D bor mb=>?_
 try refine A0 ?_
 have hll:=hl.len
 refine A1 (AE rfl rfl rfl rfl rfl .nil) ?_
 try refine A0 ?_
 refine A8 ?_
 refine AJ ?_
 refine AH rfl rfl rfl rfl (by kernel_rfl) (DB E8 E9 l hl.toTksOk (p) 3 (by omega)) ⟨rfl,trivial⟩ trivial ⟨(kn rfl),⟨(kn rfl),trivial⟩⟩ (TY.tidy) ?_
 rintro _ _ _ (⟨hk,rfl,rfl,rfl⟩ | ⟨hk,rfl,rfl,rfl⟩)
 ·refine AJ ?_
  refine B3 ?_
  refine B3 ?_
  refine AS 5 [.is (.int .i64 0),.is (.string ⟨#[]⟩),.is (.int .i64 0),.is (.int .i64 0),.is (.int .i64 0)] rfl rfl rfl rfl zr_128 (fun w D M V=>⟨rfl,fun j x v h1 h2=>AR _ h1 h2 rfl⟩) rfl rfl rfl rfl ?_
  refine AI rfl rfl rfl (kn rfl) rfl (kn rfl) rfl rfl sz_128 ?_
  refine AG ?_
  refine A6 ?_
  try refine A0 ?_
  refine A1 (AA rfl rfl rfl rfl rfl (A5 rfl rfl rfl (AP rfl (kn rfl) rfl ifc_28) .nil)) ?_
  try refine A0 ?_
  refine BD ?_
  try refine A0 ?_
  refine A1 (AA rfl rfl rfl rfl rfl (AE rfl rfl rfl rfl rfl .nil)) ?_
  try refine A0 ?_
  exact A7 (mS l (.mk nm fs os ms es rs ns ln cl) p) (pmR (.mk nm fs os ms es rs ns ln cl)) rfl (.tmp (kn rfl) (.nil)) (Imp.refl _) ⟨s_b,s_b,trivial⟩ ⟨rfl,rfl,rfl,rfl,rfl,rfl,trivial⟩ (.inl ⟨p,9,p,_,by simp only[DA,JV,XA hk],rfl,rfl,rfl⟩)
 refine AJ ?_
 refine B3 ?_
 refine B3 ?_
 refine AS 5 [.is (.int .i64 0),.is (.string ⟨#[]⟩),.is (.int .i64 0),.is (.int .i64 0),.is (.int .i64 0)] rfl rfl rfl rfl zr_128 (fun w D M V=>⟨rfl,fun j x v h1 h2=>AR _ h1 h2 rfl⟩) rfl rfl rfl rfl ?_
 refine AI rfl rfl rfl (kn rfl) rfl (kn rfl) rfl rfl sz_128 ?_
 refine AG ?_
 refine A6 ?_
 try refine A0 ?_
 refine A1 (AA rfl rfl rfl rfl rfl (A5 rfl rfl rfl (AQ rfl (kn rfl) ifc_28) .nil)) ?_
 try refine A0 ?_
 refine C1 ?_
 try refine A0 ?_
 obtain⟨hlt2,hx⟩:=Q1u hk
 refine CD 8 mixed (by kernel_rfl) rfl rfl rfl rfl (kn rfl) (fun _ _ _ _ h=>h) (AA rfl rfl rfl rfl rfl (A5 rfl rfl rfl (AL rfl (kn rfl)) (A5 rfl rfl rfl (A3 rfl (kn rfl) off_204_6) (A5 rfl rfl rfl (A4 rfl (kn rfl) rfl rfl one_54) (A5 rfl rfl rfl (A3 rfl (kn rfl) off_128_1) (A5 rfl rfl rfl (A4 rfl (kn rfl) rfl rfl one_9) (A5 rfl rfl rfl (AC (ds:=[_]) [(0,_)] rfl ⟨rfl,(kn rfl),trivial⟩ rfl sl_54 sz_9 zr_9 (fun w D=>.cons (.cell _) (.nil _ _)) rfl rfl rfl rfl rfl) .nil))))))) ?_
 refine BV rfl rfl rfl rfl (kn rfl) rfl (kn rfl) sl_54 ap_54 rfl rfl (by first | omega | (dsimp only;omega)) (by first | omega | (dsimp only;omega)) ?_
 refine AB (AL rfl (kn rfl)) ?_
 refine AB (A3 rfl (kn rfl) off_204_6) ?_
 refine B6 rfl rfl rfl (kn rfl) rfl (kn rfl) rfl rfl sz_54 rfl ?_
 refine A6 ?_
 try refine A0 ?_
 refine A1 (AE rfl rfl rfl rfl rfl .nil) ?_
 try refine A0 ?_
 exact A7 (mS l ((Msg.mk nm fs os ms es rs ns ln cl).addReserved ([],[(tkAt l p).1.t])) (p+1)) (pmR ((Msg.mk nm fs os ms es rs ns ln cl).addReserved ([],[(tkAt l p).1.t]))) rfl (.tmp (kn rfl) (.nil)) (Imp.refl _) ⟨s_b,s_b,trivial⟩ ⟨rfl,rfl,rfl,rfl,E4 rfl (by simp[Msg.addReserved,Msg.reserved]) (by simp[Msg.addReserved,Msg.reserved]),E4 rfl (by simp[Msg.addReserved,Msg.names]) (by simp[Msg.addReserved,Msg.names,List.flatMap_append,textDats]),trivial⟩ (.inr ⟨(Msg.mk nm fs os ms es rs ns ln cl).addReserved ([],[(tkAt l p).1.t]),p+1,by simp only[DA,JV,hx],rfl,rfl,rfl⟩)
set_option maxHeartbeats 1000000 in
theorem PR(E8 E9:Er)(l:List Tk)(hl:PTk l)(m:Msg)(hm:Small m 100000000000)(p:Nat)(hp:p<=100000):EG Tryz.prog (gE E8 E9) 232 [.box 1 0,.box 3 0] (mS l m p) (pmR m) (NE l E8 E9 (DA m (I9 l p))):=by
 obtain⟨nm,fs,os,ms,es,rs,ns,ln,cl⟩:=m
 have hm1:(Msg.mk nm fs os ms es rs ns ln cl).reserved.length<=100000000000:=hm.2.2.2.2.1
 refine B4 42 Tryz.func232 rfl rfl rfl fun w D bor mb=>?_
 try refine A0 ?_
 have hll:=hl.len
 refine A1 (AE rfl rfl rfl rfl rfl .nil) ?_
 try refine A0 ?_
 refine A8 ?_
 refine AJ ?_
 refine AH rfl rfl rfl rfl (by kernel_rfl) (DB E8 E9 l hl.toTksOk (p) 2 (by omega)) ⟨rfl,trivial⟩ trivial ⟨(kn rfl),⟨(kn rfl),trivial⟩⟩ (TY.tidy) ?_
 rintro _ _ _ (⟨hk,rfl,rfl,rfl⟩ | ⟨hk,rfl,rfl,rfl⟩)
 ·refine AJ ?_
  refine B3 ?_
  refine B3 ?_
  refine AS 5 [.is (.int .i64 0),.is (.string ⟨#[]⟩),.is (.int .i64 0),.is (.int .i64 0),.is (.int .i64 0)] rfl rfl rfl rfl zr_128 (fun w D M V=>⟨rfl,fun j x v h1 h2=>AR _ h1 h2 rfl⟩) rfl rfl rfl rfl ?_
  refine AI rfl rfl rfl (kn rfl) rfl (kn rfl) rfl rfl sz_128 ?_
  refine AG ?_
  refine A6 ?_
  try refine A0 ?_
  refine A1 (AA rfl rfl rfl rfl rfl (A5 rfl rfl rfl (AP rfl (kn rfl) rfl ifc_28) .nil)) ?_
  try refine A0 ?_
  refine BD ?_
  try refine A0 ?_
  refine A1 (AA rfl rfl rfl rfl rfl (AE rfl rfl rfl rfl rfl .nil)) ?_
  try refine A0 ?_
  exact A7 (mS l (.mk nm fs os ms es rs ns ln cl) p) (pmR (.mk nm fs os ms es rs ns ln cl)) rfl (.tmp (kn rfl) (.nil)) (Imp.refl _) ⟨s_b,s_b,trivial⟩ ⟨rfl,rfl,rfl,rfl,rfl,rfl,trivial⟩ (.inl ⟨p,9,p,_,by simp only[DA,I9,L1,GZ hk],rfl,rfl,rfl⟩)
 refine AJ ?_
 refine B3 ?_
 refine B3 ?_
 refine AS 5 [.is (.int .i64 0),.is (.string ⟨#[]⟩),.is (.int .i64 0),.is (.int .i64 0),.is (.int .i64 0)] rfl rfl rfl rfl zr_128 (fun w D M V=>⟨rfl,fun j x v h1 h2=>AR _ h1 h2 rfl⟩) rfl rfl rfl rfl ?_
 refine AI rfl rfl rfl (kn rfl) rfl (kn rfl) rfl rfl sz_128 ?_
 refine AG ?_
 refine A6 ?_
 try refine A0 ?_
 refine A1 (AA rfl rfl rfl rfl rfl (A5 rfl rfl rfl (AQ rfl (kn rfl) ifc_28) .nil)) ?_
 try refine A0 ?_
 refine C1 ?_
 try refine A0 ?_
 obtain⟨hlt2,hx⟩:=J2 hk
 refine A1 (A5 rfl rfl rfl (A3 rfl (kn rfl) off_128_2) (A5 rfl rfl rfl (A4 rfl (kn rfl) rfl rfl one_3) (AE rfl rfl rfl rfl rfl .nil))) ?_
 try refine A0 ?_
 refine A8 ?_
 refine AJ ?_
 refine AB (AC (ds:=[_]) [(0,_)] rfl ⟨rfl,(kn rfl),trivial⟩ rfl sl_54 sz_9 zr_9 (fun w D=>.cons (.cell _) (.nil _ _)) rfl rfl rfl rfl rfl) ?_
 refine AH rfl rfl rfl rfl (by kernel_rfl) (CR _ l hl [116,111] 1 rfl (by decide) (p+1) (by omega)) ⟨rfl,trivial⟩ trivial ⟨(kn rfl),⟨(kn rfl),trivial⟩⟩ (fun _ _ _ h=>PY.tidy h.1 h.2.1 h.2.2) ?_
 rintro _ _ _ ⟨rfl,rfl,rfl⟩
 refine A6 ?_
 try refine A0 ?_
 refine AO rfl (fun h=>?_) (fun h=>?_)
 ·have hlt3:=B7 h
  rw[h]
  try refine A0 ?_
  refine A8 ?_
  refine AJ ?_
  refine AH rfl rfl rfl rfl (by kernel_rfl) (Q59 E8 E9 l hl (p+1+1) (by omega)) ⟨rfl,trivial⟩ trivial ⟨(kn rfl),trivial⟩ (QE.tidy) ?_
  rintro _ _ _ (⟨a,b,z,s,_,he,rfl,rfl,rfl⟩ | ⟨s,z,hs,rfl,rfl,rfl⟩)
  ·refine AJ ?_
   refine B3 ?_
   refine B3 ?_
   refine AG ?_
   refine AG ?_
   refine A6 ?_
   try refine A0 ?_
   refine A1 (AA rfl rfl rfl rfl rfl (A5 rfl rfl rfl (AP rfl (kn rfl) rfl ifc_28) .nil)) ?_
   try refine A0 ?_
   refine BD ?_
   try refine A0 ?_
   refine A1 (AA rfl rfl rfl rfl rfl (AE rfl rfl rfl rfl rfl .nil)) ?_
   try refine A0 ?_
   exact A7 (mS l (.mk nm fs os ms es rs ns ln cl) z) (pmR (.mk nm fs os ms es rs ns ln cl)) rfl (.tmp (kn rfl) (.nil)) (Imp.refl _) ⟨s_b,s_b,trivial⟩ ⟨rfl,rfl,rfl,rfl,rfl,rfl,trivial⟩ (.inl ⟨a,b,z,_,by simp only[DA,I9,L1,hx,h,if_true,he],rfl,rfl,rfl⟩)
  have hw:H7 l p=.ok ((((tkAt l p).1.n:Int),s),z):=by simp only[L1,hx,h,if_true,hs]
  refine AJ ?_
  refine B3 ?_
  refine B3 ?_
  refine AG ?_
  refine AG ?_
  refine A6 ?_
  try refine A0 ?_
  refine A1 (AA rfl rfl rfl rfl rfl (A5 rfl rfl rfl (AQ rfl (kn rfl) ifc_28) .nil)) ?_
  try refine A0 ?_
  refine C1 ?_
  try refine A0 ?_
  refine CD 10 mixed (by kernel_rfl) rfl rfl rfl rfl (kn rfl) (fun _ _ _ _ h=>h) (AA rfl rfl rfl rfl rfl (A5 rfl rfl rfl (AL rfl (kn rfl)) (A5 rfl rfl rfl (A3 rfl (kn rfl) off_204_5) (A5 rfl rfl rfl (A4 rfl (kn rfl) rfl rfl one_202) (A5 rfl rfl rfl (A3 rfl (kn rfl) off_128_2) (A5 rfl rfl rfl (A4 rfl (kn rfl) rfl rfl one_3) (AA rfl rfl rfl rfl rfl (A5 rfl rfl rfl (B9 (ds:=[_,_]) [(0,_),(1,_)] rfl ⟨rfl,(kn rfl),⟨rfl,(kn rfl),trivial⟩⟩ rfl pl_353 zr_353 (fun w D=>.cons (.cell _) (.cons (.cell _) (.nil _ _))) rfl) (A5 rfl rfl rfl (AC (ds:=[_,_]) [(0,_)] rfl ⟨rfl,(kn rfl),trivial⟩ rfl sl_202 sz_353 zr_353 (fun w D=>.cons (.cell _) (.cons (.cell _) (.nil _ _))) rfl rfl rfl rfl rfl) .nil))))))))) ?_
  refine BV rfl rfl rfl rfl (kn rfl) rfl (kn rfl) sl_202 ap_202 rfl rfl (by first | omega | (dsimp only;omega)) (by first | omega | (dsimp only;omega)) ?_
  refine AB (AL rfl (kn rfl)) ?_
  refine AB (A3 rfl (kn rfl) off_204_5) ?_
  refine B6 rfl rfl rfl (kn rfl) rfl (kn rfl) rfl rfl sz_202 rfl ?_
  refine A6 ?_
  try refine A0 ?_
  refine A1 (AE rfl rfl rfl rfl rfl .nil) ?_
  try refine A0 ?_
  exact A7 (mS l ((Msg.mk nm fs os ms es rs ns ln cl).addReserved ([(((tkAt l p).1.n:Int),s)],[])) (z)) (pmR ((Msg.mk nm fs os ms es rs ns ln cl).addReserved ([(((tkAt l p).1.n:Int),s)],[]))) rfl (.tmp (kn rfl) (.nil)) (Imp.refl _) ⟨s_b,s_b,trivial⟩ ⟨rfl,rfl,rfl,rfl,E4 rfl (by simp[Msg.addReserved,Msg.reserved]) (by simp[Msg.addReserved,Msg.reserved,List.flatMap_append,rangeDats]),E4 rfl (by simp[Msg.addReserved,Msg.names]) (by simp[Msg.addReserved,Msg.names]),trivial⟩ (.inr ⟨(Msg.mk nm fs os ms es rs ns ln cl).addReserved ([(((tkAt l p).1.n:Int),s)],[]),z,by simp only[DA,I9,hw],rfl,rfl,rfl⟩)
 ·have hw:H7 l p=.ok ((((tkAt l p).1.n:Int),((tkAt l p).1.n:Int)),p+1):=by simp only[L1,hx,h];rfl
  rw[h]
  try refine A0 ?_
  refine CD 10 mixed (by kernel_rfl) rfl rfl rfl rfl (kn rfl) (fun _ _ _ _ h=>h) (AA rfl rfl rfl rfl rfl (A5 rfl rfl rfl (AL rfl (kn rfl)) (A5 rfl rfl rfl (A3 rfl (kn rfl) off_204_5) (A5 rfl rfl rfl (A4 rfl (kn rfl) rfl rfl one_202) (A5 rfl rfl rfl (A3 rfl (kn rfl) off_128_2) (A5 rfl rfl rfl (A4 rfl (kn rfl) rfl rfl one_3) (AA rfl rfl rfl rfl rfl (A5 rfl rfl rfl (B9 (ds:=[_,_]) [(0,_),(1,_)] rfl ⟨rfl,(kn rfl),⟨rfl,(kn rfl),trivial⟩⟩ rfl pl_353 zr_353 (fun w D=>.cons (.cell _) (.cons (.cell _) (.nil _ _))) rfl) (A5 rfl rfl rfl (AC (ds:=[_,_]) [(0,_)] rfl ⟨rfl,(kn rfl),trivial⟩ rfl sl_202 sz_353 zr_353 (fun w D=>.cons (.cell _) (.cons (.cell _) (.nil _ _))) rfl rfl rfl rfl rfl) .nil))))))))) ?_
  refine BV rfl rfl rfl rfl (kn rfl) rfl (kn rfl) sl_202 ap_202 rfl rfl (by first | omega | (dsimp only;omega)) (by first | omega | (dsimp only;omega)) ?_
  refine AB (AL rfl (kn rfl)) ?_
  refine AB (A3 rfl (kn rfl) off_204_5) ?_
  refine B6 rfl rfl rfl (kn rfl) rfl (kn rfl) rfl rfl sz_202 rfl ?_
  refine A6 ?_
  try refine A0 ?_
  refine A1 (AE rfl rfl rfl rfl rfl .nil) ?_
  try refine A0 ?_
  exact A7 (mS l ((Msg.mk nm fs os ms es rs ns ln cl).addReserved ([(((tkAt l p).1.n:Int),((tkAt l p).1.n:Int))],[])) (p+1)) (pmR ((Msg.mk nm fs os ms es rs ns ln cl).addReserved ([(((tkAt l p).1.n:Int),((tkAt l p).1.n:Int))],[]))) rfl (.tmp (kn rfl) (.nil)) (Imp.refl _) ⟨s_b,s_b,trivial⟩ ⟨rfl,rfl,rfl,rfl,E4 rfl (by simp[Msg.addReserved,Msg.reserved]) (by simp[Msg.addReserved,Msg.reserved,List.flatMap_append,rangeDats]),E4 rfl (by simp[Msg.addReserved,Msg.names]) (by simp[Msg.addReserved,Msg.names]),trivial⟩ (.inr ⟨(Msg.mk nm fs os ms es rs ns ln cl).addReserved ([(((tkAt l p).1.n:Int),((tkAt l p).1.n:Int))],[]),p+1,by simp only[DA,I9,hw],rfl,rfl,rfl⟩)
end Go.Proofs.YtgcphgdkddihcaaGreatDoor
