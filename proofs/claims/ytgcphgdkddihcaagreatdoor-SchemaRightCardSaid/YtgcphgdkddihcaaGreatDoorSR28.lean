/- Part 28. Conditions: as each theorem says. -/
import Derived.Test.YtgcphgdkddihcaaGreatDoorSR27
import Derived.Test.YtgcphgdkddihcaaGreatDoorProg
import Derived.Deep.LoopGhost
import Derived.Lib.IndexAny
set_option maxRecDepth 100000
namespace Go.Proofs.YtgcphgdkddihcaaGreatDoor
open Go.RowKit
def KS(l:List Tk)(f:Fil)(p:Nat):AZ (Fil×Nat):=
 if tkIs l p 4 [59]then .ok (f,p+1)
 else if tkIs l p 1 [109,101,115,115,97,103,101]then FG f (BE l 8 (p+1))
 else if tkIs l p 1 [101,110,117,109]then I2 f (FK l (p+1))
 else .error (p,9)
theorem X8(l:List Tk)(n:Nat)(f:Fil)(p:Nat):DW l (n+1) f p=if p<l.length then(match KS l f p with | .error e=>.error e | .ok (g,q)=>DW l n g q)else .ok f:=by
 rw[DW]
 split
 ·unfold KS
  split
  ·rfl
  split
  ·unfold FG
   cases BE l 8 (p+1)with
   | error e=>rfl
   | ok x=>rfl
  split
  ·unfold I2
   cases FK l (p+1)with
   | error e=>rfl
   | ok x=>rfl
  ·rfl
 ·rfl
theorem Q3G{l:List Tk}{f g:Fil}{p q:Nat}(h:KS l f p=.ok (g,q)):p<q/\q<=l.length/\g.msgs.length<=f.msgs.length+1/\g.enums.length<=f.enums.length+1/\g.package=f.package:=by
 unfold KS at h
 split at h
 ·rename_i hs
  have:=B7 hs
  injection h with h
  injection h with h1 h2
  subst h1 h2
  exact⟨by omega,by omega,by omega,by omega,rfl⟩
 split at h
 ·unfold FG at h
  split at h
  ·cases h
  ·rename_i x r hx
   have:=CJ l 8 _ _ _ hx
   injection h with h
   injection h with h1 h2
   subst h1 h2
   exact⟨by omega,by omega,by simp,by simp,rfl⟩
 split at h
 ·unfold I2 at h
  split at h
  ·cases h
  ·rename_i x r hx
   have:=MW hx
   injection h with h
   injection h with h1 h2
   subst h1 h2
   exact⟨by omega,by omega,by simp,by simp,rfl⟩
 ·cases h
theorem TH(E8 E9:Er)(l:List Tk)(hl:PTk l)(f:Fil)(hf1:f.msgs.length<=100000000000)(hf2:f.enums.length<=100000000000)(p:Nat)(hp:p<=100000):EG Tryz.prog (gE E8 E9) 79 [.box 1 0,.box 7 0] (flB l f p) (flR f) (LE l E8 E9 (KS l f p)):=by
 refine B4 29 Tryz.func79 rfl rfl rfl fun w D bor mb=>?_
 try refine A0 ?_
 have hll:=hl.len
 refine A1 (AE rfl rfl rfl rfl rfl .nil) ?_
 try refine A0 ?_
 refine A8 ?_
 refine AJ ?_
 refine AB (AC (ds:=[_]) [(0,_)] rfl ⟨rfl,(kn rfl),trivial⟩ rfl sl_54 sz_9 zr_9 (fun w D=>.cons (.cell _) (.nil _ _)) rfl rfl rfl rfl rfl) ?_
 refine AH rfl rfl rfl rfl (by kernel_rfl) (CR _ l hl [59] 4 rfl (by decide) p (by omega)) ⟨rfl,trivial⟩ trivial ⟨(kn rfl),⟨(kn rfl),trivial⟩⟩ (fun _ _ _ h=>PY.tidy h.1 h.2.1 h.2.2) ?_
 rintro _ _ _ ⟨rfl,rfl,rfl⟩
 refine AG ?_
 refine A6 ?_
 try refine A0 ?_
 refine AO rfl (fun h0=>?_) (fun h0=>?_)
 ·rw[h0]
  try refine A0 ?_
  refine A1 (AE rfl rfl rfl rfl rfl .nil) ?_
  try refine A0 ?_
  exact A7 (flB l f (p+1)) (flR f) rfl (.tmp (kn rfl) (.nil)) (Imp.refl _) ⟨s_b,s_b,trivial⟩ ⟨rfl,rfl,trivial⟩ (.inr ⟨f,p+1,by simp[KS,h0],rfl,rfl,rfl⟩)
 rw[h0]
 try refine A0 ?_
 refine A8 ?_
 refine AJ ?_
 refine AB (AC (ds:=[_]) [(0,_)] rfl ⟨rfl,(kn rfl),trivial⟩ rfl sl_54 sz_9 zr_9 (fun w D=>.cons (.cell _) (.nil _ _)) rfl rfl rfl rfl rfl) ?_
 refine AH rfl rfl rfl rfl (by kernel_rfl) (CR _ l hl [109,101,115,115,97,103,101] 1 rfl (by decide) p (by omega)) ⟨rfl,trivial⟩ trivial ⟨(kn rfl),⟨(kn rfl),trivial⟩⟩ (fun _ _ _ h=>PY.tidy h.1 h.2.1 h.2.2) ?_
 rintro _ _ _ ⟨rfl,rfl,rfl⟩
 refine AG ?_
 refine A6 ?_
 try refine A0 ?_
 refine AO rfl (fun h1=>?_) (fun h1=>?_)
 ·have hlt:=B7 h1
  rw[h1]
  try refine A0 ?_
  refine A8 ?_
  refine AJ ?_
  refine AJ ?_
  refine AB (AL rfl (kn rfl)) ?_
  refine AB (A3 rfl (kn rfl) off_42_1) ?_
  refine AH rfl rfl rfl rfl (by kernel_rfl) (Q16 E8 E9 l hl f hf1 (p+1) (by omega)) ⟨rfl,rfl,trivial⟩ ⟨rfl,rfl,trivial⟩ ⟨(kn rfl),⟨(kn rfl),⟨(kn rfl),trivial⟩⟩⟩ (LE.tidy) ?_
  rintro _ _ _ (⟨a,b,z,g,he,rfl,rfl,rfl⟩ | ⟨g,z,ho,rfl,rfl,rfl⟩)
  ·refine AG ?_
   refine A6 ?_
   try refine A0 ?_
   exact A7 (flB l g z) (flR g) rfl (.tmp (kn rfl) (.nil)) (Imp.refl _) ⟨s_b,s_b,trivial⟩ ⟨rfl,rfl,trivial⟩ (.inl ⟨a,b,z,g,by rw[<- he];simp[KS,h0,h1],rfl,rfl,rfl⟩)
  refine AG ?_
  refine A6 ?_
  try refine A0 ?_
  exact A7 (flB l g z) (flR g) rfl (.tmp (kn rfl) (.nil)) (Imp.refl _) ⟨s_b,s_b,trivial⟩ ⟨rfl,rfl,trivial⟩ (.inr ⟨g,z,by rw[<- ho];simp[KS,h0,h1],rfl,rfl,rfl⟩)
 rw[h1]
 try refine A0 ?_
 refine A8 ?_
 refine AJ ?_
 refine AB (AC (ds:=[_]) [(0,_)] rfl ⟨rfl,(kn rfl),trivial⟩ rfl sl_54 sz_9 zr_9 (fun w D=>.cons (.cell _) (.nil _ _)) rfl rfl rfl rfl rfl) ?_
 refine AH rfl rfl rfl rfl (by kernel_rfl) (CR _ l hl [101,110,117,109] 1 rfl (by decide) p (by omega)) ⟨rfl,trivial⟩ trivial ⟨(kn rfl),⟨(kn rfl),trivial⟩⟩ (fun _ _ _ h=>PY.tidy h.1 h.2.1 h.2.2) ?_
 rintro _ _ _ ⟨rfl,rfl,rfl⟩
 refine AG ?_
 refine A6 ?_
 try refine A0 ?_
 refine AO rfl (fun h2=>?_) (fun h2=>?_)
 ·have hlt:=B7 h2
  rw[h2]
  try refine A0 ?_
  refine A8 ?_
  refine AJ ?_
  refine AJ ?_
  refine AB (AL rfl (kn rfl)) ?_
  refine AB (A3 rfl (kn rfl) off_42_2) ?_
  refine AH rfl rfl rfl rfl (by kernel_rfl) (Q6w E8 E9 l hl f hf2 (p+1) (by omega)) ⟨rfl,rfl,trivial⟩ ⟨rfl,rfl,trivial⟩ ⟨(kn rfl),⟨(kn rfl),trivial⟩⟩ (LE.tidy) ?_
  rintro _ _ _ (⟨a,b,z,g,he,rfl,rfl,rfl⟩ | ⟨g,z,ho,rfl,rfl,rfl⟩)
  ·refine AG ?_
   refine A6 ?_
   try refine A0 ?_
   exact A7 (flB l g z) (flR g) rfl (.tmp (kn rfl) (.nil)) (Imp.refl _) ⟨s_b,s_b,trivial⟩ ⟨rfl,rfl,trivial⟩ (.inl ⟨a,b,z,g,by rw[<- he];simp[KS,h0,h1,h2],rfl,rfl,rfl⟩)
  refine AG ?_
  refine A6 ?_
  try refine A0 ?_
  exact A7 (flB l g z) (flR g) rfl (.tmp (kn rfl) (.nil)) (Imp.refl _) ⟨s_b,s_b,trivial⟩ ⟨rfl,rfl,trivial⟩ (.inr ⟨g,z,by rw[<- ho];simp[KS,h0,h1,h2],rfl,rfl,rfl⟩)
 rw[h2]
 try refine A0 ?_
 refine A8 ?_
 refine AJ ?_
 refine AH rfl rfl rfl rfl (by kernel_rfl) (GF E8 E9 l hl.toTksOk p (by omega)) ⟨rfl,trivial⟩ trivial ⟨(kn rfl),trivial⟩ (fun _ _ _ h=>PY.tidy h.1 h.2.1 h.2.2) ?_
 rintro _ _ _ ⟨rfl,rfl,rfl⟩
 refine AG ?_
 refine A6 ?_
 try refine A0 ?_
 exact A7 (flB l f p) (flR f) rfl (.tmp (kn rfl) (.nil)) (Imp.refl _) ⟨s_b,s_b,trivial⟩ ⟨rfl,rfl,trivial⟩ (.inl ⟨p,9,p,f,by simp[KS,h0,h1,h2],rfl,rfl,rfl⟩)
theorem KZ(l:List Tk):FT l=match TT l with
 | .error e=>.error e
 | .ok s=>
  match DI l s with
  | .error e=>.error e
  | .ok (pk,u)=>DW l (l.length+1) ⟨pk,[],[]⟩ u:=by
 unfold TT
 cases h:EK l [GN,[61]] 0 with
 | error e=>exact Q2h h
 | ok q=>
  rw[(Q37 h).1]
  unfold PK
  dsimp only
  cases ht:I1 l q with
  | error e=>rfl
  | ok x=>
   obtain⟨t,r⟩:=x
   dsimp only
   by_cases hp:t=PV
   ·rw[if_pos hp,if_pos hp]
    cases BK l 4 [59] r<;>rfl
   ·rw[if_neg hp,if_neg hp]
    rfl
theorem WN{l:List Tk}{q:Nat}(h:TT l=.ok q):q<=l.length:=by
 unfold TT at h
 split at h
 ·cases h
 split at h
 ·cases h
 ·split at h
  ·have:=BA h
   omega
  ·cases h
abbrev Q72:List Dat:=[.cell (.string ⟨#[]⟩),.cell (.slice none 0 0),.cell (.slice none 0 0)]
abbrev zX:Bx:=⟨42,[.is (.string ⟨#[]⟩),.is (.slice none 0 0),.is (.slice none 0 0)]⟩
def FilE(l:List Tk)(E8 E9:Er)(r:AZ Fil)(y:IV)(B1:BL)(R1:RL):Prop:=
 (∃ a b z,r=.error (a,b)/\y=.tup [.many Q72,YK l a (erv E8 E9 b)]/\B1=pB l z/\R1=[])\/(∃ f z,r=.ok f/\y=.tup [.many f.dats,IS]/\B1=pB l z/\R1=[])
theorem FilE.tidy{l:List Tk}{E8 E9:Er}{r:AZ Fil}{q:Nat}(y:IV)(B1:BL)(R1:RL)(h:FilE l E8 E9 r y B1 R1):H0 (pB l q) [] y B1 R1:=by
 rcases h with⟨a,b,z,_,rfl,rfl,rfl⟩ | ⟨x,z,_,rfl,rfl,rfl⟩<;>exact⟨rfl,rfl,rfl,rfl⟩
set_option maxHeartbeats 2000000 in
theorem Q7e(E8 E9:Er)(l:List Tk)(hl:PTk l):EG Tryz.prog (gE E8 E9) 47 [.box 1 0] (pB l 0) [] (FilE l E8 E9 (FT l)):=by
 refine B4 54 Tryz.func47 rfl rfl rfl fun w D bor mb=>?_
 try refine A0 ?_
 have hll:=hl.len
 have hf:=KZ l
 refine A8 ?_
 refine AS 2 [.is (.string ⟨#[]⟩),.is (.slice none 0 0),.is (.slice none 0 0)] rfl rfl rfl rfl zr_42 (fun w D M V=>⟨rfl,fun j x v h1 h2=>AR _ h1 h2 rfl⟩) rfl rfl rfl rfl ?_
 refine AG ?_
 refine A6 ?_
 try refine A0 ?_
 refine A8 ?_
 refine AS 7 [.is (.string ⟨#[]⟩),.is (.slice none 0 0),.is (.slice none 0 0)] rfl rfl rfl rfl zr_42 (fun w D M V=>⟨rfl,fun j x v h1 h2=>AR _ h1 h2 rfl⟩) rfl rfl rfl rfl ?_
 refine A6 ?_
 try refine A0 ?_
 refine A8 ?_
 refine AJ ?_
 refine AH rfl rfl rfl rfl (by kernel_rfl) (Q3Z E8 E9 l hl) ⟨rfl,trivial⟩ trivial ⟨(kn rfl),trivial⟩ (PE.tidy) ?_
 rintro _ _ _ (⟨a,b,z,he,rfl,rfl,rfl⟩ | ⟨r,ho,rfl,rfl,rfl⟩)
 ·refine AG ?_
  refine A6 ?_
  try refine A0 ?_
  refine A1 (AA rfl rfl rfl rfl rfl (A5 rfl rfl rfl (AP rfl (kn rfl) rfl ifc_28) .nil)) ?_
  try refine A0 ?_
  refine BD ?_
  try refine A0 ?_
  refine A8 ?_
  refine AB (B9 (ds:=[_,_,_]) [] rfl trivial rfl pl_42 zr_42 (fun w D=>.cons (.cell _) (.cons (.cell _) (.cons (.cell _) (.nil _ _)))) rfl) ?_
  refine AJ ?_
  refine AI rfl rfl rfl (kn rfl) rfl (kn rfl) rfl rfl sz_42 ?_
  refine AG ?_
  refine A6 ?_
  try refine A0 ?_
  exact A7 (pB l z) ([]) rfl (.cell rfl rfl rfl agg_42 sz_42 rfl (.tmp (kn rfl) (.nil))) (Imp.refl _) ⟨s_b,trivial⟩ trivial (.inl ⟨a,b,z,by rw[hf,he],rfl,rfl,rfl⟩)
 rw[ho]at hf
 dsimp only at hf
 have hr:=WN ho
 refine AG ?_
 refine A6 ?_
 try refine A0 ?_
 refine A1 (AA rfl rfl rfl rfl rfl (A5 rfl rfl rfl (AQ rfl (kn rfl) ifc_28) .nil)) ?_
 try refine A0 ?_
 refine C1 ?_
 try refine A0 ?_
 refine A8 ?_
 refine AJ ?_
 refine AB (AC (ds:=[_]) [(0,_)] rfl ⟨rfl,(kn rfl),trivial⟩ rfl sl_54 sz_9 zr_9 (fun w D=>.cons (.cell _) (.nil _ _)) rfl rfl rfl rfl rfl) ?_
 refine AH rfl rfl rfl rfl (by kernel_rfl) (CR _ l hl [112,97,99,107,97,103,101] 1 rfl (by decide) r (by omega)) ⟨rfl,trivial⟩ trivial ⟨(kn rfl),⟨(kn rfl),trivial⟩⟩ (fun _ _ _ h=>PY.tidy h.1 h.2.1 h.2.2) ?_
 rintro _ _ _ ⟨rfl,rfl,rfl⟩
 refine A6 ?_
 try refine A0 ?_
 refine Q7i (ι:={ i:List UInt8×Nat // DI l r=.ok i/\i.2<=l.length })
  (fun i=>[(0,.box 1 0),(2,.box 2 0),(3,.is .nilIface),(4,.box 7 0)])
  (fun i=>[(2,zX),(7,⟨42,[.is (.string (str i.1.1)),.is (.slice none 0 0),.is (.slice none 0 0)]⟩),(1,pX l i.1.2)])
  (fun _=>[]) ?_ ?_
 ·refine AO rfl (fun hp=>?_) (fun hp=>?_)
  ·have hlt:=B7 hp
   rw[hp]
   try refine A0 ?_
   refine A8 ?_
   refine AJ ?_
   refine AH rfl rfl rfl rfl (by kernel_rfl) (Q1i E8 E9 l hl (r+1) (by omega)) ⟨rfl,trivial⟩ trivial ⟨(kn rfl),trivial⟩ (QE.tidy) ?_
   rintro _ _ _ (⟨a,b,z,s,_,he,rfl,rfl,rfl⟩ | ⟨s,z,hs,rfl,rfl,rfl⟩)
   ·have he':CX l false (r+1)=.error (a,b):=he
    refine AJ ?_
    refine B3 ?_
    refine B3 ?_
    refine AG ?_
    refine AG ?_
    refine A6 ?_
    try refine A0 ?_
    refine A1 (AA rfl rfl rfl rfl rfl (A5 rfl rfl rfl (AP rfl (kn rfl) rfl ifc_28) .nil)) ?_
    try refine A0 ?_
    refine BD ?_
    try refine A0 ?_
    refine A8 ?_
    refine AB (B9 (ds:=[_,_,_]) [] rfl trivial rfl pl_42 zr_42 (fun w D=>.cons (.cell _) (.cons (.cell _) (.cons (.cell _) (.nil _ _)))) rfl) ?_
    refine AJ ?_
    refine AI rfl rfl rfl (kn rfl) rfl (kn rfl) rfl rfl sz_42 ?_
    refine AG ?_
    refine A6 ?_
    try refine A0 ?_
    exact A7 (pB l z) ([]) rfl (.cell rfl rfl rfl agg_42 sz_42 rfl (.tmp (kn rfl) (.nil))) (Imp.refl _) ⟨s_b,trivial⟩ trivial (.inl ⟨a,b,z,by rw[hf];simp only[DI,hp,if_true,he'],rfl,rfl,rfl⟩)
   have hs':CX l false (r+1)=.ok (s,z):=hs
   have hz:=F4 hs'
   refine AJ ?_
   refine B3 ?_
   refine B3 ?_
   refine AG ?_
   refine AG ?_
   refine A6 ?_
   try refine A0 ?_
   refine A1 (AA rfl rfl rfl rfl rfl (A5 rfl rfl rfl (AQ rfl (kn rfl) ifc_28) .nil)) ?_
   try refine A0 ?_
   refine C1 ?_
   try refine A0 ?_
   refine A8 ?_
   refine AJ ?_
   refine AB (A3 rfl (kn rfl) off_42_0) ?_
   refine C3 rfl rfl rfl (kn rfl) rfl (kn rfl) rfl rfl sz_9 rfl ?_
   refine A6 ?_
   try refine A0 ?_
   refine A8 ?_
   refine AJ ?_
   refine AB (AC (ds:=[_]) [(0,_)] rfl ⟨rfl,(kn rfl),trivial⟩ rfl sl_54 sz_9 zr_9 (fun w D=>.cons (.cell _) (.nil _ _)) rfl rfl rfl rfl rfl) ?_
   refine AH rfl rfl rfl rfl (by kernel_rfl) (D4 E8 E9 l hl 4 [59] rfl (by decide) z (by omega)) ⟨rfl,trivial⟩ trivial ⟨(kn rfl),⟨(kn rfl),trivial⟩⟩ (PE.tidy) ?_
   rintro _ _ _ (⟨a,b,z,he,rfl,rfl,rfl⟩ | ⟨q,hw,rfl,rfl,rfl⟩)
   ·refine AG ?_
    refine A6 ?_
    try refine A0 ?_
    refine A1 (AA rfl rfl rfl rfl rfl (A5 rfl rfl rfl (AP rfl (kn rfl) rfl ifc_28) .nil)) ?_
    try refine A0 ?_
    refine BD ?_
    try refine A0 ?_
    refine A8 ?_
    refine AB (B9 (ds:=[_,_,_]) [] rfl trivial rfl pl_42 zr_42 (fun w D=>.cons (.cell _) (.cons (.cell _) (.cons (.cell _) (.nil _ _)))) rfl) ?_
    refine AJ ?_
    refine AI rfl rfl rfl (kn rfl) rfl (kn rfl) rfl rfl sz_42 ?_
    refine AG ?_
    refine A6 ?_
    try refine A0 ?_
    exact A7 (pB l z) ([]) rfl (.cell rfl rfl rfl agg_42 sz_42 rfl (.tmp (kn rfl) (.nil))) (Imp.refl _) ⟨s_b,trivial⟩ trivial (.inl ⟨a,b,z,by rw[hf];simp only[DI,hp,if_true,hs',he],rfl,rfl,rfl⟩)
   have hq:=BA hw
   refine AG ?_
   refine A6 ?_
   try refine A0 ?_
   refine A1 (AA rfl rfl rfl rfl rfl (A5 rfl rfl rfl (AQ rfl (kn rfl) ifc_28) .nil)) ?_
   try refine A0 ?_
   refine C1 ?_
   try refine A0 ?_
   refine Q4z ⟨(s,q),by simp only[DI,hp,if_true,hs',hw],by dsimp only;omega⟩ (fun K=>B8 ⟨s_t,s_t,s_t,s_t,trivial⟩ ⟨s_b,s_b,s_b,trivial⟩ trivial)
  ·rw[hp]
   try refine A0 ?_
   refine Q4z ⟨([],r),by simp only[DI,hp];rfl,by dsimp only;omega⟩ (fun K=>B8 ⟨s_t,s_t,s_t,s_t,trivial⟩ ⟨s_b,s_b,s_b,trivial⟩ trivial)
 rintro⟨⟨pk,u⟩,hpk,hu⟩
 dsimp only at hpk hu ⊢
 rw[hpk]at hf
 dsimp only at hf
 try refine A0 ?_
 refine BI 7 1 400 204 9 rfl rfl rfl rfl rfl ?_
 refine BI 7 2 401 200 4 rfl rfl rfl rfl rfl ?_
 refine CB (ι:={ i:Nat×Fil×Nat // 1<=i.1/\l.length+1<=i.1+i.2.2/\i.2.2<=l.length/\i.2.1.msgs.length<=i.2.2/\i.2.1.enums.length<=i.2.2/\FT l=DW l i.1 i.2.1 i.2.2 })
  (fun i=>[(0,.box 1 0),(2,.box 2 0),(3,.is .nilIface),(4,.box 7 0)])
  (fun i=>[(2,zX),(7,flX i.1.2.1),(1,pX l i.1.2.2)]) (fun i=>flR i.1.2.1)
  (fun i=>i.1.1) ⟨(l.length+1,⟨pk,[],[]⟩,u),by omega,by dsimp only;omega,hu,by simp,by simp,hf⟩
  (fun K=>B8 ⟨s_t,s_t,s_t,s_t,trivial⟩ ⟨s_b,s_b,s_b,trivial⟩ ⟨rfl,rfl,trivial⟩) ?_
 rintro⟨⟨n',f,q⟩,hn1,hn,hq,hm,he,hw⟩
 dsimp only at hn1 hn hq hm he hw ⊢
 obtain⟨n,rfl⟩:∃ n,n'=n+1:=⟨n'-1,by omega⟩
 rw[X8]at hw
 try refine A0 ?_
 refine FI mixed (by kernel_rfl) (AA rfl rfl rfl rfl rfl (A5 rfl rfl rfl (AL rfl (kn rfl)) (A5 rfl rfl rfl (A3 rfl (kn rfl) off_134_1) (A5 rfl rfl rfl (A4 rfl (kn rfl) rfl rfl one_3) (AA rfl rfl rfl rfl rfl (A5 rfl rfl rfl (AL rfl (kn rfl)) (A5 rfl rfl rfl (A3 rfl (kn rfl) off_134_0) (A5 rfl rfl rfl (A4 rfl (kn rfl) rfl rfl one_84) (A5 rfl rfl rfl (CI rfl (kn rfl) sle_84) (A5 rfl rfl rfl (AN rfl (kn rfl) (kn rfl) CP) .nil)))))))))) ?_
 try refine A0 ?_
 refine AO rfl (fun h=>?_) (fun h=>?_)
 ·have hlt:q<l.length:=by
   have:=of_decide_eq_true h
   omega
  rw[if_pos hlt]at hw
  try refine A0 ?_
  refine A8 ?_
  refine AJ ?_
  refine AH rfl rfl rfl rfl (by kernel_rfl) (TH E8 E9 l hl f (by omega) (by omega) q (by omega)) ⟨rfl,rfl,trivial⟩ ⟨rfl,rfl,trivial⟩ ⟨(kn rfl),⟨(kn rfl),trivial⟩⟩ (LE.tidy) ?_
  rintro _ _ _ (⟨a,b,z,g,he,rfl,rfl,rfl⟩ | ⟨g,z,ho,rfl,rfl,rfl⟩)
  ·refine AG ?_
   refine A6 ?_
   try refine A0 ?_
   refine A1 (AA rfl rfl rfl rfl rfl (A5 rfl rfl rfl (AP rfl (kn rfl) rfl ifc_28) .nil)) ?_
   try refine A0 ?_
   refine BD ?_
   try refine A0 ?_
   refine A8 ?_
   refine AB (B9 (ds:=[_,_,_]) [] rfl trivial rfl pl_42 zr_42 (fun w D=>.cons (.cell _) (.cons (.cell _) (.cons (.cell _) (.nil _ _)))) rfl) ?_
   refine AJ ?_
   refine AI rfl rfl rfl (kn rfl) rfl (kn rfl) rfl rfl sz_42 ?_
   refine AG ?_
   refine A6 ?_
   try refine A0 ?_
   exact A7 (pB l z) ([]) rfl (.cell rfl rfl rfl agg_42 sz_42 rfl (.tmp (kn rfl) (.nil))) (Imp.refl _) ⟨s_b,trivial⟩ trivial (.inl ⟨a,b,z,by rw[hw,he],rfl,rfl,rfl⟩)
  rw[ho]at hw
  dsimp only at hw
  have hv:=Q3G ho
  refine AG ?_
  refine A6 ?_
  try refine A0 ?_
  refine A1 (AA rfl rfl rfl rfl rfl (A5 rfl rfl rfl (AQ rfl (kn rfl) ifc_28) .nil)) ?_
  try refine A0 ?_
  refine C1 ?_
  try refine A0 ?_
  refine BB ⟨(n,g,z),by omega,by dsimp only;omega,by dsimp only;omega,by dsimp only;omega,by dsimp only;omega,hw⟩ (by dsimp only;omega) (fun K=>B8 ⟨s_t,s_t,s_t,s_t,trivial⟩ ⟨s_b,s_b,s_b,trivial⟩ ⟨rfl,rfl,trivial⟩)
 have hlt:¬ q<l.length:=by
  have:=of_decide_eq_false h
  omega
 rw[if_neg hlt]at hw
 try refine A0 ?_
 refine BC 7 1 400 rfl rfl rfl rfl rfl ?_
 refine BC 7 2 401 rfl rfl rfl rfl rfl ?_
 refine A8 ?_
 refine AB (AT (ds:=[_,_,_]) 3 rfl (kn rfl) rfl rfl agg_42 sz_42 rfl) ?_
 refine AI rfl rfl rfl (kn rfl) rfl (kn rfl) rfl rfl sz_42 ?_
 refine AG ?_
 refine A6 ?_
 try refine A0 ?_
 exact A7 (pB l q) ([]) rfl (.cell rfl rfl rfl agg_42 sz_42 rfl (.tmp (kn rfl) (.nil))) (Imp.refl _) ⟨s_b,trivial⟩ trivial (.inr ⟨f,q,hw,rfl,rfl,rfl⟩)
def Q8d(l:List Tk)(E8 E9:Er)(r:AZ Fil)(y:IV):Prop:=(∃ a b,r=.error (a,b)/\y=.tup [.many Q72,YK l a (erv E8 E9 b)])\/(∃ f,r=.ok f/\y=.tup [.many f.dats,IS])
theorem Q7E(E8 E9:Er)(l:List Tk)(hl:PTk l):EFx Tryz.prog (gE E8 E9) 25 [Q62 l] (Q8d l E8 E9 (FT l)):=by
 refine AU 10 Tryz.func25 rfl rfl rfl fun w D=>?_
 try refine A0 ?_
 refine A8 ?_
 refine AS 2 [.is (.string ⟨#[]⟩),.is (.slice none 0 0),.is (.slice none 0 0)] rfl rfl rfl rfl zr_42 (fun w D M V=>⟨rfl,fun j x v h1 h2=>AR _ h1 h2 rfl⟩) rfl rfl rfl rfl ?_
 refine AG ?_
 refine A6 ?_
 try refine A0 ?_
 refine A8 ?_
 refine AJ ?_
 refine AB (B9 (ds:=[_,_]) [(0,_)] rfl ⟨rfl,(kn rfl),trivial⟩ rfl pl_134 zr_134 (fun w D=>.cons (.cell _) (.cons (.cell _) (.nil _ _))) rfl) ?_
 refine AS 1 [.is (.slice none 0 0),.is (.int .i64 0)] rfl rfl rfl rfl zr_134 (fun w D M V=>⟨rfl,fun j x v h1 h2=>AR _ h1 h2 rfl⟩) rfl rfl rfl rfl ?_
 refine AI rfl rfl rfl (kn rfl) rfl (kn rfl) rfl rfl sz_134 ?_
 refine A6 ?_
 try refine A0 ?_
 refine A8 ?_
 refine AH rfl rfl rfl rfl (by kernel_rfl) (Q7e E8 E9 l hl) ⟨rfl,trivial⟩ trivial ⟨(kn rfl),trivial⟩ (FilE.tidy) ?_
 rintro _ _ _ (⟨a,b,z,he,rfl,rfl,rfl⟩ | ⟨f,z,ho,rfl,rfl,rfl⟩)
 ·refine B3 ?_
  refine B3 ?_
  refine AI rfl rfl rfl (kn rfl) rfl (kn rfl) rfl rfl sz_42 ?_
  refine AG ?_
  refine A6 ?_
  try refine A0 ?_
  exact AM rfl rfl (.cell rfl rfl rfl agg_42 sz_42 rfl (.tmp (kn rfl) (.nil))) (Imp.refl _) (.inl ⟨a,b,he,rfl⟩)
 ·refine B3 ?_
  refine B3 ?_
  refine AI rfl rfl rfl (kn rfl) rfl (kn rfl) rfl rfl sz_42 ?_
  refine AG ?_
  refine A6 ?_
  try refine A0 ?_
  exact AM rfl rfl (.cell rfl rfl rfl agg_42 sz_42 rfl (.tmp (kn rfl) (.nil))) (Imp.refl _) (.inr ⟨f,ho,rfl⟩)
structure GoodTok (x:Tok) (n:Nat):Prop where
 one:x.k=1 -> ∃ c cs,x.t=c::cs/\lxLet c=true
 two:x.k=2 -> ∃ c cs,x.t=c::cs/\lxFig c=true
 four:x.k=4 -> ∃ c,x.t=[c]/\lxSign c=true
 kind:x.k=1\/x.k=2\/x.k=3\/x.k=4
 num:x.n<=2147483647
 len:x.t.length<=n
theorem Q10(b:Nat)(ds:List UInt8):(lnb b ds).1<=2147483647:=by
 unfold lnb
 split
 ·simp
 split
 ·simp
 ·dsimp only
  omega
theorem Q42(l:List UInt8):(M9 l).1<=2147483647:=by
 unfold M9
 split
 ·exact Q10 _ _
 split<;>exact Q10 _ _
theorem Q2m{l:List UInt8}{n:Nat}(h0:0<l.length)(hn:0<n):∃ cs,l.take n=l.headD 0::cs:=by
 cases l with
 | nil=>simp at h0
 | cons b l=>
  obtain⟨m,rfl⟩:∃ m,n=m+1:=⟨n-1,by omega⟩
  exact⟨l.take m,rfl⟩
theorem Y0{k:Nat}{p:List UInt8}(h:(DK k p).2=0)(hk:k=1\/k=2\/k=3\/k=4)(h1:k=1 -> ∃ c cs,p=c::cs/\lxLet c=true)(h2:k=2 -> ∃ c cs,p=c::cs/\lxFig c=true)(h4:k=4 -> ∃ c,p=[c]/\lxSign c=true):GoodTok (DK k p).1 p.length:=by
 rcases hk with rfl | rfl | rfl | rfl
 ·unfold DK at h ⊢
  rw[if_neg (by decide),if_pos rfl]at h ⊢
  split
  ·rename_i hl
   rw[if_pos hl]at h
   cases h
  ·exact⟨fun _=>h1 rfl,fun h=>(by cases h),fun h=>(by cases h),.inl rfl,by simp,Nat.le_refl _⟩
 ·unfold DK at h ⊢
  rw[if_neg (by decide),if_neg (by decide),if_pos rfl]at h ⊢
  split
  ·exact⟨fun h=>(by cases h),fun _=>h2 rfl,fun h=>(by cases h),.inr (.inl rfl),Q42 _,Nat.le_refl _⟩
  ·rename_i hl
   rw[if_neg hl]at h
   exact absurd h hl
 ·unfold DK at h ⊢
  rw[if_neg (by decide),if_neg (by decide),if_neg (by decide),if_pos rfl]at h ⊢
  split
  ·rename_i hl
   rw[if_pos hl]at h
   cases h
  ·refine⟨fun h=>(by cases h),fun h=>(by cases h),fun h=>(by cases h),.inr (.inr (.inl rfl)),by simp,?_⟩
   simp only[List.length_take,List.length_drop]
   omega
 ·unfold DK
  rw[if_neg (by decide),if_neg (by decide),if_neg (by decide),if_neg (by decide)]
  exact⟨fun h=>(by cases h),fun h=>(by cases h),fun _=>h4 rfl,.inr (.inr (.inr rfl)),by simp,Nat.le_refl _⟩
theorem XE{l:List UInt8}(h0:0<l.length)(h:(lfirst l).2.2=0)(hk:(lcut l).1≠0):GoodTok (lfirst l).1 l.length:=by
  obtain⟨_,_,_,h3,h4,h5⟩:=CZ h0 h
  obtain⟨hs,hsl⟩:=OM h0 (by have:=(CZ h0 h).2.2.1;exact this)
  have key:GoodTok (DK (lcut l).1 (l.take (lcut l).2.1)).1 (l.take (lcut l).2.1).length:=by
    obtain⟨cs,hcs⟩:=Q2m h0 hs
    refine Y0 h4 ?_ (fun h1=>⟨_,cs,hcs,?_⟩) (fun h1=>⟨_,cs,hcs,?_⟩) fun h1=>⟨l.headD 0,?_,?_⟩
    · unfold lcut at hk ⊢
      split
      · rename_i a;rw[if_pos a]at hk;exact absurd rfl hk
      rename_i a;rw[if_neg a]at hk
      split
      · rename_i a;rw[if_pos a]at hk;exact absurd rfl hk
      rename_i a;rw[if_neg a]at hk
      split
      · rename_i a;rw[if_pos a]at hk;exact absurd rfl hk
      rename_i a;rw[if_neg a]at hk
      split
      · exact .inl rfl
      rename_i a;rw[if_neg a]at hk
      split
      · exact .inr (.inl rfl)
      rename_i a;rw[if_neg a]at hk
      split
      · exact .inr (.inr (.inl rfl))
      rename_i a;rw[if_neg a]at hk
      split
      · exact .inr (.inr (.inr rfl))
      rename_i a;rw[if_neg a]at hk
      exact absurd rfl hk
    all_goals
      unfold lcut at h1
      split at h1
      · cases h1
      split at h1
      · cases h1
      split at h1
      · cases h1
      split at h1
      · first | assumption | cases h1
      split at h1
      · first | assumption | cases h1
      split at h1
      · cases h1
      split at h1
      · first
          | assumption
          | (cases h1;done)
          | (rename_i a1 a2 a3 a4 a5 a6 a7
             have e:(lcut l).2.1=1:=by
               unfold lcut
               rw[if_neg a1,if_neg a2,if_neg a3,if_neg a4,if_neg a5,if_neg a6,if_pos a7]
             rw[e]
             cases l with
             | nil=>simp at h0
             | cons b l=>rfl)
      · cases h1
  rw[h5]
  obtain⟨k1,k2,k3,k4,k5,k6⟩:=key
  exact⟨k1,k2,k3,k4,k5,Nat.le_trans k6 (by rw[List.length_take];omega)⟩
theorem Lex.good{l:List UInt8}{i:Nat}{ts:List (Tok×Nat)}{e ea:Nat}(h:Lex l i ts e ea):i<=l.length->ts.length+i<=l.length /\ ∀ x∈ts,GoodTok x.1 l.length:=by
 induction h with
 | done h=>intro hi;exact⟨by simpa using hi,fun x hx=>(by cases hx)⟩
 | bad h1 h2=>intro hi;exact⟨by simpa using hi,fun x hx=>(by cases hx)⟩
 | @gap i ts e ea h1 h2 h3 h ih=>
  intro hi
  have h0:0<(l.drop i).length:=by rw[List.length_drop];omega
  have hs:=CZ h0 h2
  rw[List.length_drop]at hs
  obtain⟨a1,a2⟩:=ih (by omega)
  exact⟨by omega,a2⟩
 | @tok i ts e ea h1 h2 h3 h ih=>
  intro hi
  have h0:0<(l.drop i).length:=by rw[List.length_drop];omega
  have hs:=CZ h0 h2
  rw[List.length_drop]at hs
  obtain⟨a1,a2⟩:=ih (by omega)
  refine⟨by simp only[List.length_cons];omega,fun x hx=>?_⟩
  rcases List.mem_cons.1 hx with rfl | hx
  ·obtain⟨k1,k2,k3,k4,k5,k6⟩:=XE h0 h2 h3
   exact⟨k1,k2,k3,k4,k5,Nat.le_trans k6 (by rw[List.length_drop];omega)⟩
  ·exact a2 x hx
def Q6Y(s:List UInt8)(x:Tok×Nat):Tk:=(x.1,(BW s x.2).1,(BW s x.2).2)
def CT(s:List UInt8)(ts:List (Tok×Nat)):List Tk:=ts.map (Q6Y s)
theorem Q7S:∀ t∈ws,t≠[]:=by decide
theorem Q3O:∀ t∈ws,kindT t≠3:=by decide
theorem Q7t:∀ t∈ws,lxLet (t.headD 0)=true->kindT t=1:=by decide
theorem Q6O:∀ t∈ws,lxFig (t.headD 0)=false:=by decide
theorem Q6C:∀ t∈ws,lxSign (t.headD 0)=true->kindT t=4:=by decide
theorem T7{s:List UInt8}(hs:s.length<=4000){ts:List (Tok×Nat)}{e ea:Nat}(h:Lex s 0 ts e ea):PTk (CT s ts):=by
 obtain⟨hl,hg⟩:=h.good (Nat.zero_le _)
 have hlen:(CT s ts).length=ts.length:=by simp[CT]
 have hat:∀ p,(p<ts.length/\(CT s ts)[p]?=some (tkAt (CT s ts) p)/\GoodTok (tkAt (CT s ts) p).1 s.length)\/(tkAt (CT s ts) p=tk0/\(CT s ts)[p]?=none):=fun p=>by
  rcases Nat.lt_or_ge p ts.length with hp | hp
  ·refine .inl ⟨hp,IN (by rw[hlen];exact hp),?_⟩
   have h1:=IN (l:=CT s ts) (p:=p) (by rw[hlen];exact hp)
   unfold CT at h1
   rw[List.getElem?_map,List.getElem?_eq_getElem hp]at h1
   have h2:Q6Y s ts[p]=tkAt (List.map (Q6Y s) ts) p:=Option.some.inj h1
   unfold CT
   rw[<- h2]
   exact hg _ (List.getElem_mem hp)
  ·refine .inr ⟨?_,List.getElem?_eq_none (by rw[hlen];exact hp)⟩
   unfold tkAt
   rw[List.getD_eq_getElem?_getD,List.getElem?_eq_none (by rw[hlen];exact hp)]
   rfl
 refine⟨⟨by rw[hlen];omega,fun p=>?_,fun p=>?_⟩,fun p t ht=>?_,fun p hk=>?_⟩
 ·rcases hat p with⟨_,_,h⟩ | ⟨h,_⟩
  ·have:=h.len
   omega
  ·rw[h];decide
 ·rcases hat p with⟨_,_,h⟩ | ⟨h,_⟩
  ·have:=h.num
   omega
  ·rw[h];decide
 ·have hne:=Q7S t ht
  unfold tkIs
  rcases hat p with⟨_,h1,h⟩ | ⟨h,h1⟩
  ·rw[h1]
   generalize tkAt (CT s ts) p=x at h
   by_cases hx:x.1.t=t
   ·rcases h.kind with hk | hk | hk | hk
    ·obtain⟨c,cs,hc,hb⟩:=h.one hk
     have:kindT t=1:=Q7t t ht (by rw[<- hx,hc];exact hb)
     simp[hk,hx,this]
    ·obtain⟨c,cs,hc,hb⟩:=h.two hk
     have:=Q6O t ht
     rw[<- hx,hc]at this
     simp only[List.headD_cons]at this
     rw[hb]at this
     cases this
    ·have:=Q3O t ht
     simp[hk,Ne.symm this]
    ·obtain⟨c,hc,hb⟩:=h.four hk
     have:kindT t=4:=Q6C t ht (by rw[<- hx,hc];exact hb)
     simp[hk,hx,this]
   ·simp[hx,hne]
  ·rw[h1,h]
   simp only[Bool.not_false,Bool.or_eq_true,Bool.not_eq_true',decide_eq_false_iff_not]
   exact .inr (Ne.symm hne)
 ·rcases hat p with⟨_,_,h⟩ | ⟨h,_⟩
  ·obtain⟨c,cs,hc,_⟩:=h.one hk
   rw[hc]
   simp
  ·rw[h]at hk
   cases hk
section
open Go.RowKit Go.Extern.Stop Go.Stop Go.Extern
def Chain(w:World)(A:Nat->Addr)(k:Nat):Nat->Value->Prop
 | 0,v=>v=errV A k
 | n+1,v=>∃ (b:Nat) (li co:Int) (v':Value),v=.iface Q68 (.pointer (some ⟨b,0,none⟩))/\Blk w b 126 [.int .i64 li,.int .i64 co,v']/\Chain w A k n v'
theorem Chain.drewN{w:World}{A:Nat->Addr}{k:Nat}:∀ {n:Nat} {v:Value} (m:Nat),Chain w A k n v->Chain (w.drewN m) A k n v
 | 0,_,_,h=>h
 | _+1,_,m,⟨b,li,co,v',h1,h2,h3⟩=>⟨b,li,co,v',h1,h2.drewN m,h3.drewN m⟩
theorem Chain.below{w w':World}{A:Nat->Addr}{k:Nat}(hb:Below w.heap.size w w'):∀ {n:Nat} {v:Value},Chain w A k n v->Chain w' A k n v
 | 0,_,h=>h
 | _+1,_,⟨b,li,co,v',h1,h2,h3⟩=>⟨b,li,co,v',h1,h2.kept hb,h3.below hb⟩
theorem Chain.held{w:World}{A:Nat->Addr}{k n:Nat}{v:Value}(h:Chain w A k n v):∃ u x,v=.iface u x /\ ∀ w0,(binOp .eql 28 (.iface u x) .nilIface).run Tryz.prog w0=.ok (.bool false) w0:=by
 cases n with
 | zero=>exact⟨tE,.pointer (some (A k)),h,fun w0=>run_eql_held_nil (P:=Tryz.prog) w0 28 tE (.pointer (some (A k))) (by kernel_rfl)⟩
 | succ g=>
  obtain⟨b2,_,_,_,h2,_,_⟩:=h
  exact⟨Q68,_,h2,fun w0=>run_eql_held_nil (P:=Tryz.prog) w0 28 Q68 _ (by kernel_rfl)⟩
end
theorem Q38(l:List UInt8):(str l).data.toList=l:=by simp[str]
theorem TC(l:List UInt8)(x y:UInt8):Lib.hasPrefix l [x,y]=decide (l.take 2=[x,y]):=by
 unfold Lib.hasPrefix
 rw[Bool.eq_iff_iff,List.isPrefixOf_iff_prefix,decide_eq_true_eq,List.prefix_iff_eq_take]
 exact eq_comm
theorem BR(w:World)(l:List UInt8)(x y:UInt8):Calls Tryz.prog 115 #[.string (str l),.string ⟨#[x,y]⟩] w (Ans (.bool (decide (l.take 2=[x,y]))) w):=by
 have h:=Tryz.strings_HasPrefix (str l) ⟨#[x,y]⟩ w
 rw[Q38,show(ByteArray.mk #[x,y]).data.toList=[x,y] from rfl,TC]at h
 exact h
theorem Z5(w:World)(b:UInt8):Calls Tryz.prog 122 #[.string ⟨#[123,125,91,93,60,62,40,41,59,61,44,46,45]⟩,.int .u8 (b.toNat:Int)] w fun e w'=>(∃ i:Int,e=.returned (.int .i64 i)/\decide (0<=i)=lxSign b)/\w'=w:=by
 refine(Tryz.strings_IndexByte ⟨#[123,125,91,93,60,62,40,41,59,61,44,46,45]⟩ (b.toNat:Int) w).mono fun e w' ⟨h1,h2⟩=>⟨⟨_,h1,?_⟩,h2⟩
 rw[show(ByteArray.mk #[123,125,91,93,60,62,40,41,59,61,44,46,45]).data.toList=signs from rfl,Lib.byte_back',<- Lib.contains_iff_indexByte]
 rfl
def TA(w:World)(A:Nat->Addr)(r:Nat×Nat×Nat)(e:Ending)(w':World):Prop:=
 e=.returned (.tuple #[.int .i64 (r.1:Int),.int .i64 (r.2.1:Int),FV A r.2.2])/\Below w.heap.size w w'
theorem Q6x(w:World)(A:Nat->Addr)(m:Int)(hL:Lx w A m)(b:UInt8)(r:List UInt8)(hl:(b::r).length<1000000000)(hgap:FU b=true):
  Calls Tryz.prog 73 #[.string (str (b::r))] w (TA w A (0,CL FU (b::r),0)):=by
 have hix:∀ u,(Instr.index 9 (.string (str (b::r))) (.int .i64 0)).run Tryz.prog u=.ok (.int .u8 (b.toNat:Int)) u:=C7 (b::r) 0 (by simp)
 have Hgap:=Lib.hid (EO w b)
 rw[hgap]at Hgap
 clear hgap
 go_enter Tryz.func73,Tryz.ntmps73
 go_wp2_with fail
 refine Hgap.out.mono ?_
 rintro e w ⟨rfl,rfl⟩
 go_wp2_with fail
 refine(Q3H w (b::r) (by omega)).mono ?_
 rintro e w' ⟨rfl,n,rfl⟩
 go_wp2_with fail
 go_ret3
 exact⟨rfl,AV (Below.refl _ _) _⟩
theorem Q7m(w:World)(A:Nat->Addr)(m:Int)(hL:Lx w A m)(b:UInt8)(r:List UInt8)(hl:(b::r).length<1000000000)(hgap:FU b=false)(hsl:decide ((b::r).take 2=[47,47])=true):
  Calls Tryz.prog 73 #[.string (str (b::r))] w (TA w A (0,CL Q4g (b::r),0)):=by
 have hix:∀ u,(Instr.index 9 (.string (str (b::r))) (.int .i64 0)).run Tryz.prog u=.ok (.int .u8 (b.toNat:Int)) u:=C7 (b::r) 0 (by simp)
 have Hgap:=Lib.hid (EO w b)
 rw[hgap]at Hgap
 have Hsl:=Lib.hid (BR w (b::r) 47 47)
 rw[hsl]at Hsl
 have hmf:=JO
 clear hgap
 clear hsl
 go_enter Tryz.func73,Tryz.ntmps73
 go_wp2_with fail
 refine Hgap.out.mono ?_
 rintro e w ⟨rfl,rfl⟩
 go_wp2_with fail
 refine Hsl.out.mono ?_
 rintro e w ⟨rfl,rfl⟩
 go_wp2_with fail
 refine(TX w 10).mono ?_
 rintro e w' ⟨rfl,hw⟩
 have hb1:Below w.heap.size w w':=hw▸(Below.refl _ _).alloc (Nat.le_refl _) _
 have hc:w'.cell? ⟨w.heap.size,0,none⟩=some (.int .u8 10):=by rw[hw];exact(Blk.new w 5 [.int .u8 10]).cell 0
 clear hw
 go_wp2_with fail
 refine(Q1k w' (b::r) _ (by omega) hc).mono ?_
 rintro e w2 ⟨rfl,n,rfl⟩
 go_wp2_with fail
 go_ret3
 exact⟨rfl,AV hb1 _⟩
theorem Q7q(w:World)(A:Nat->Addr)(m:Int)(hL:Lx w A m)(b:UInt8)(r:List UInt8)(hl:(b::r).length<1000000000)(hgap:FU b=false)(hsl:decide ((b::r).take 2=[47,47])=false)(hst:decide ((b::r).take 2=[47,42])=true):
  Calls Tryz.prog 73 #[.string (str (b::r))] w (TA w A (0,FC 2 [42,47] (b::r))):=by
 have hix:∀ u,(Instr.index 9 (.string (str (b::r))) (.int .i64 0)).run Tryz.prog u=.ok (.int .u8 (b.toNat:Int)) u:=C7 (b::r) 0 (by simp)
 have Hgap:=Lib.hid (EO w b)
 rw[hgap]at Hgap
 have Hsl:=Lib.hid (BR w (b::r) 47 47)
 rw[hsl]at Hsl
 have Hst:=Lib.hid (BR w (b::r) 47 42)
 rw[hst]at Hst
 have htwo:2<=(b::r).length:=by
  have h:=congrArg List.length (of_decide_eq_true hst)
  rw[List.length_take]at h
  simp only[List.length_cons,List.length_nil]at h ⊢
  omega
 have HC:=Lib.hid (QO w A m hL (b::r) [47,42] [42,47] hl htwo (by simp))
 rw[show([47,42]:List UInt8).length=2 from rfl]at HC
 clear htwo
 clear hgap
 clear hsl
 clear hst
 go_enter Tryz.func73,Tryz.ntmps73
 go_wp2_with fail
 refine Hgap.out.mono ?_
 rintro e w ⟨rfl,rfl⟩
 go_wp2_with fail
 refine Hsl.out.mono ?_
 rintro e w ⟨rfl,rfl⟩
 go_wp2_with fail
 refine Hst.out.mono ?_
 rintro e w ⟨rfl,rfl⟩
 go_wp2_with fail
 refine HC.out.mono ?_
 rintro e w' ⟨rfl,n,rfl⟩
 go_wp2_with fail
 go_ret3
 exact⟨rfl,AV (Below.refl _ _) _⟩
theorem Q7b(w:World)(A:Nat->Addr)(m:Int)(hL:Lx w A m)(b:UInt8)(r:List UInt8)(hl:(b::r).length<1000000000)(hgap:FU b=false)(hsl:decide ((b::r).take 2=[47,47])=false)(hst:decide ((b::r).take 2=[47,42])=false)(hwd:lxLet b=true):
  Calls Tryz.prog 73 #[.string (str (b::r))] w (TA w A (1,CL N7 (b::r),0)):=by
 have hix:∀ u,(Instr.index 9 (.string (str (b::r))) (.int .i64 0)).run Tryz.prog u=.ok (.int .u8 (b.toNat:Int)) u:=C7 (b::r) 0 (by simp)
 have Hgap:=Lib.hid (EO w b)
 rw[hgap]at Hgap
 have Hsl:=Lib.hid (BR w (b::r) 47 47)
 rw[hsl]at Hsl
 have Hst:=Lib.hid (BR w (b::r) 47 42)
 rw[hst]at Hst
 have Hwd:=Lib.hid (DM w b)
 rw[hwd]at Hwd
 clear hgap
 clear hsl
 clear hst
 clear hwd
 go_enter Tryz.func73,Tryz.ntmps73
 go_wp2_with fail
 refine Hgap.out.mono ?_
 rintro e w ⟨rfl,rfl⟩
 go_wp2_with fail
 refine Hsl.out.mono ?_
 rintro e w ⟨rfl,rfl⟩
 go_wp2_with fail
 refine Hst.out.mono ?_
 rintro e w ⟨rfl,rfl⟩
 go_wp2_with fail
 refine Hwd.out.mono ?_
 rintro e w ⟨rfl,rfl⟩
 go_wp2_with fail
 refine(Q1F w (b::r) (by omega)).mono ?_
 rintro e w' ⟨rfl,n,rfl⟩
 go_wp2_with fail
 go_ret3
 exact⟨rfl,AV (Below.refl _ _) _⟩
theorem Q7a(w:World)(A:Nat->Addr)(m:Int)(hL:Lx w A m)(b:UInt8)(r:List UInt8)(hl:(b::r).length<1000000000)(hgap:FU b=false)(hsl:decide ((b::r).take 2=[47,47])=false)(hst:decide ((b::r).take 2=[47,42])=false)(hwd:lxLet b=false)(hfg:lxFig b=true):
  Calls Tryz.prog 73 #[.string (str (b::r))] w (TA w A (2,CL N7 (b::r),0)):=by
 have hix:∀ u,(Instr.index 9 (.string (str (b::r))) (.int .i64 0)).run Tryz.prog u=.ok (.int .u8 (b.toNat:Int)) u:=C7 (b::r) 0 (by simp)
 have Hgap:=Lib.hid (EO w b)
 rw[hgap]at Hgap
 have Hsl:=Lib.hid (BR w (b::r) 47 47)
 rw[hsl]at Hsl
 have Hst:=Lib.hid (BR w (b::r) 47 42)
 rw[hst]at Hst
 have Hwd:=Lib.hid (DM w b)
 rw[hwd]at Hwd
 have Hfg:=Lib.hid (FD w b)
 rw[hfg]at Hfg
 clear hgap
 clear hsl
 clear hst
 clear hwd
 clear hfg
 go_enter Tryz.func73,Tryz.ntmps73
 go_wp2_with fail
 refine Hgap.out.mono ?_
 rintro e w ⟨rfl,rfl⟩
 go_wp2_with fail
 refine Hsl.out.mono ?_
 rintro e w ⟨rfl,rfl⟩
 go_wp2_with fail
 refine Hst.out.mono ?_
 rintro e w ⟨rfl,rfl⟩
 go_wp2_with fail
 refine Hwd.out.mono ?_
 rintro e w ⟨rfl,rfl⟩
 go_wp2_with fail
 refine Hfg.out.mono ?_
 rintro e w ⟨rfl,rfl⟩
 go_wp2_with fail
 refine(Q1F w (b::r) (by omega)).mono ?_
 rintro e w' ⟨rfl,n,rfl⟩
 go_wp2_with fail
 go_ret3
 exact⟨rfl,AV (Below.refl _ _) _⟩
theorem Q6X(w:World)(A:Nat->Addr)(m:Int)(hL:Lx w A m)(b:UInt8)(r:List UInt8)(hl:(b::r).length<1000000000)(hgap:FU b=false)(hsl:decide ((b::r).take 2=[47,47])=false)(hst:decide ((b::r).take 2=[47,42])=false)(hwd:lxLet b=false)(hfg:lxFig b=false)(hqt:GQ b=true):
  Calls Tryz.prog 73 #[.string (str (b::r))] w (TA w A (3,FC 1 [b] (b::r))):=by
 have hix:∀ u,(Instr.index 9 (.string (str (b::r))) (.int .i64 0)).run Tryz.prog u=.ok (.int .u8 (b.toNat:Int)) u:=C7 (b::r) 0 (by simp)
 have Hgap:=Lib.hid (EO w b)
 rw[hgap]at Hgap
 have Hsl:=Lib.hid (BR w (b::r) 47 47)
 rw[hsl]at Hsl
 have Hst:=Lib.hid (BR w (b::r) 47 42)
 rw[hst]at Hst
 have Hwd:=Lib.hid (DM w b)
 rw[hwd]at Hwd
 have Hfg:=Lib.hid (FD w b)
 rw[hfg]at Hfg
 have Hqt:=Lib.hid (KR w b)
 rw[hqt]at Hqt
 have hup:∀ u,(Instr.slice 9 (.string (str (b::r))) none (some (.int .i64 1)) none).run Tryz.prog u=.ok (.string (str [b])) u:=NP (b::r) 1 (by simp)
 have HC:=Lib.hid (fun n=>by have h:=QO (w.drewN n) A m (hL.drewN n) (b::r) [b] [b] hl (by simp) (by simp);rw[show([b]:List UInt8).length=1 from rfl]at h;exact h)
 clear hgap
 clear hsl
 clear hst
 clear hwd
 clear hfg
 clear hqt
 go_enter Tryz.func73,Tryz.ntmps73
 go_wp2_with fail
 refine Hgap.out.mono ?_
 rintro e w ⟨rfl,rfl⟩
 go_wp2_with fail
 refine Hsl.out.mono ?_
 rintro e w ⟨rfl,rfl⟩
 go_wp2_with fail
 refine Hst.out.mono ?_
 rintro e w ⟨rfl,rfl⟩
 go_wp2_with fail
 refine Hwd.out.mono ?_
 rintro e w ⟨rfl,rfl⟩
 go_wp2_with fail
 refine Hfg.out.mono ?_
 rintro e w ⟨rfl,rfl⟩
 go_wp2_with fail
 refine Hqt.out.mono ?_
 rintro e w ⟨rfl,rfl⟩
 go_wp2_with fail
 go_quiet (refine Calls.quiet_of (HC.out _))
 go_wp2_with fail
 go_ret3
 exact⟨rfl,AV (Below.refl _ _) _⟩
theorem Q7p(w:World)(A:Nat->Addr)(m:Int)(hL:Lx w A m)(b:UInt8)(r:List UInt8)(_hl:(b::r).length<1000000000)(hgap:FU b=false)(hsl:decide ((b::r).take 2=[47,47])=false)(hst:decide ((b::r).take 2=[47,42])=false)(hwd:lxLet b=false)(hfg:lxFig b=false)(hqt:GQ b=false)(hsg:lxSign b=true):
  Calls Tryz.prog 73 #[.string (str (b::r))] w (TA w A (4,1,0)):=by
 have hix:∀ u,(Instr.index 9 (.string (str (b::r))) (.int .i64 0)).run Tryz.prog u=.ok (.int .u8 (b.toNat:Int)) u:=C7 (b::r) 0 (by simp)
 have Hgap:=Lib.hid (EO w b)
 rw[hgap]at Hgap
 have Hsl:=Lib.hid (BR w (b::r) 47 47)
 rw[hsl]at Hsl
 have Hst:=Lib.hid (BR w (b::r) 47 42)
 rw[hst]at Hst
 have Hwd:=Lib.hid (DM w b)
 rw[hwd]at Hwd
 have Hfg:=Lib.hid (FD w b)
 rw[hfg]at Hfg
 have Hqt:=Lib.hid (KR w b)
 rw[hqt]at Hqt
 have Hsg:=Lib.hid (Z5 w b)
 rw[hsg]at Hsg
 clear hgap
 clear hsl
 clear hst
 clear hwd
 clear hfg
 clear hqt
 clear hsg
 go_enter Tryz.func73,Tryz.ntmps73
 go_wp2_with fail
 refine Hgap.out.mono ?_
 rintro e w ⟨rfl,rfl⟩
 go_wp2_with fail
 refine Hsl.out.mono ?_
 rintro e w ⟨rfl,rfl⟩
 go_wp2_with fail
 refine Hst.out.mono ?_
 rintro e w ⟨rfl,rfl⟩
 go_wp2_with fail
 refine Hwd.out.mono ?_
 rintro e w ⟨rfl,rfl⟩
 go_wp2_with fail
 refine Hfg.out.mono ?_
 rintro e w ⟨rfl,rfl⟩
 go_wp2_with fail
 refine Hqt.out.mono ?_
 rintro e w ⟨rfl,rfl⟩
 go_wp2_with fail
 refine Hsg.out.mono ?_
 rintro e w ⟨⟨i,rfl,hi⟩,rfl⟩
 replace hi:0<=i:=of_decide_eq_true hi
 go_wp2_with fail
 go_ret3
 exact⟨rfl,Below.refl _ _⟩
theorem Q6D(w:World)(A:Nat->Addr)(m:Int)(hL:Lx w A m)(b:UInt8)(r:List UInt8)(_hl:(b::r).length<1000000000)(hgap:FU b=false)(hsl:decide ((b::r).take 2=[47,47])=false)(hst:decide ((b::r).take 2=[47,42])=false)(hwd:lxLet b=false)(hfg:lxFig b=false)(hqt:GQ b=false)(hsg:lxSign b=false):
  Calls Tryz.prog 73 #[.string (str (b::r))] w (TA w A (0,0,9)):=by
 have hix:∀ u,(Instr.index 9 (.string (str (b::r))) (.int .i64 0)).run Tryz.prog u=.ok (.int .u8 (b.toNat:Int)) u:=C7 (b::r) 0 (by simp)
 have Hgap:=Lib.hid (EO w b)
 rw[hgap]at Hgap
 have Hsl:=Lib.hid (BR w (b::r) 47 47)
 rw[hsl]at Hsl
 have Hst:=Lib.hid (BR w (b::r) 47 42)
 rw[hst]at Hst
 have Hwd:=Lib.hid (DM w b)
 rw[hwd]at Hwd
 have Hfg:=Lib.hid (FD w b)
 rw[hfg]at Hfg
 have Hqt:=Lib.hid (KR w b)
 rw[hqt]at Hqt
 have Hsg:=Lib.hid (Z5 w b)
 rw[hsg]at Hsg
 have hform:=hL.form
 clear hgap
 clear hsl
 clear hst
 clear hwd
 clear hfg
 clear hqt
 clear hsg
 go_enter Tryz.func73,Tryz.ntmps73
 go_wp2_with fail
 refine Hgap.out.mono ?_
 rintro e w ⟨rfl,rfl⟩
 go_wp2_with fail
 refine Hsl.out.mono ?_
 rintro e w ⟨rfl,rfl⟩
 go_wp2_with fail
 refine Hst.out.mono ?_
 rintro e w ⟨rfl,rfl⟩
 go_wp2_with fail
 refine Hwd.out.mono ?_
 rintro e w ⟨rfl,rfl⟩
 go_wp2_with fail
 refine Hfg.out.mono ?_
 rintro e w ⟨rfl,rfl⟩
 go_wp2_with fail
 refine Hqt.out.mono ?_
 rintro e w ⟨rfl,rfl⟩
 go_wp2_with fail
 refine Hsg.out.mono ?_
 rintro e w ⟨⟨i,rfl,hi⟩,rfl⟩
 replace hi:¬ 0<=i:=of_decide_eq_false hi
 go_wp2_with fail
 go_quiet (fail)
 go_wp2_with fail
 go_ret3
 exact⟨rfl,AV (Below.refl _ _) _⟩
theorem Q6d(w:World)(A:Nat->Addr)(m:Int)(hL:Lx w A m)(l:List UInt8)(h0:0<l.length)(hl:l.length<1000000000):
  Calls Tryz.prog 73 #[.string (str l)] w (TA w A (lcut l)):=by
 obtain⟨b,r,rfl⟩:∃ b r,l=b::r:=by
  cases l with
  | nil=>simp at h0
  | cons b r=>exact⟨b,r,rfl⟩
 unfold lcut
 rw[List.headD_cons]
 by_cases pgap:FU b=true
 ·rw[if_pos pgap]
  exact Q6x w A m hL b r hl  pgap
 rw[if_neg pgap]
 have hgap:FU b=false:=by simpa using pgap
 by_cases psl:(b::r).take 2=[47,47]
 ·rw[if_pos psl]
  exact Q7m w A m hL b r hl hgap (decide_eq_true psl)
 rw[if_neg psl]
 have hsl:=decide_eq_false psl
 by_cases pst:(b::r).take 2=[47,42]
 ·rw[if_pos pst]
  exact Q7q w A m hL b r hl hgap hsl (decide_eq_true pst)
 rw[if_neg pst]
 have hst:=decide_eq_false pst
 by_cases pwd:lxLet b=true
 ·rw[if_pos pwd]
  exact Q7b w A m hL b r hl hgap hsl hst pwd
 rw[if_neg pwd]
 have hwd:lxLet b=false:=by simpa using pwd
 by_cases pfg:lxFig b=true
 ·rw[if_pos pfg]
  exact Q7a w A m hL b r hl hgap hsl hst hwd pfg
 rw[if_neg pfg]
 have hfg:lxFig b=false:=by simpa using pfg
 by_cases pqt:GQ b=true
 ·rw[if_pos pqt]
  exact Q6X w A m hL b r hl hgap hsl hst hwd hfg pqt
 rw[if_neg pqt]
 have hqt:GQ b=false:=by simpa using pqt
 by_cases psg:lxSign b=true
 ·rw[if_pos psg]
  exact Q7p w A m hL b r hl hgap hsl hst hwd hfg hqt psg
 rw[if_neg psg]
 have hsg:lxSign b=false:=by simpa using psg
 exact Q6D w A m hL b r hl hgap hsl hst hwd hfg hqt hsg
end Go.Proofs.YtgcphgdkddihcaaGreatDoor
