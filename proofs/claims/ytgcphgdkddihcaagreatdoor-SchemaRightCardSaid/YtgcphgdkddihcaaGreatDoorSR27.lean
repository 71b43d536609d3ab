/- Part 27. Conditions: as each theorem says. -/
import Derived.Test.YtgcphgdkddihcaaGreatDoorSR26
import Derived.Test.YtgcphgdkddihcaaGreatDoorProg
set_option maxRecDepth 100000
namespace Go.Proofs.YtgcphgdkddihcaaGreatDoor
open Go.RowKit
theorem GG{l:List Tk}{p:Nat}{w:List UInt8}(hw:w≠[]):tkIs l p 1 w=true↔S5 l p=w:=by
 unfold tkIs S5
 cases l[p]? with
 | none=>simp[Ne.symm hw]
 | some x=>
  by_cases hk:x.1.k=1
  ·simp[hk,hw]
  ·simp[hk,Ne.symm hw]
theorem JF{l:List Tk}{p:Nat}{w:List UInt8}(hw:w≠[])(h:tkIs l p 1 w=false):¬ S5 l p=w:=fun e=>by
 rw[(GG hw).2 e]at h
 cases h
def ID(m:Msg)(r:AZ (Msg×Nat)):AZ (Msg×Nat):=
 match r with
 | .error e=>.error e
 | .ok (g,q)=>.ok (m.addMsg g,q)
theorem LG{l:List Tk}{sub:Nat->AZ (Msg×Nat)}{m:Msg}{p:Nat}(h:tkIs l p 1 [109,101,115,115,97,103,101]=true):CN l sub m p=ID m (sub (p+1)):=by
 have e:=(GG (by decide)).1 h
 simp only[CN,e]
 rfl
theorem S9{l:List Tk}{sub:Nat->AZ (Msg×Nat)}{m:Msg}{p:Nat}(h0:tkIs l p 1 [109,101,115,115,97,103,101]=false)(h:tkIs l p 1 [101,110,117,109]=true):CN l sub m p=N8 m (FK l (p+1)):=by
 have e:=(GG (by decide)).1 h
 simp only[CN,e]
 rfl
theorem OU{l:List Tk}{sub:Nat->AZ (Msg×Nat)}{m:Msg}{p:Nat}(h0:tkIs l p 1 [109,101,115,115,97,103,101]=false)(h1:tkIs l p 1 [101,110,117,109]=false)(h:tkIs l p 1 [111,110,101,111,102]=true):CN l sub m p=PX m (G1 l (p+1) ((m.oneofs.length:Int)+1)):=by
 have e:=(GG (by decide)).1 h
 simp only[CN,e]
 rfl
theorem K1{l:List Tk}{sub:Nat->AZ (Msg×Nat)}{m:Msg}{p:Nat}(h0:tkIs l p 1 [109,101,115,115,97,103,101]=false)(h1:tkIs l p 1 [101,110,117,109]=false)(h2:tkIs l p 1 [111,110,101,111,102]=false)(h:tkIs l p 1 [114,101,115,101,114,118,101,100]=true):CN l sub m p=DA m (DJ l (p+1)):=by
 have e:=(GG (by decide)).1 h
 simp only[CN,e]
 rfl
theorem KO{l:List Tk}{sub:Nat->AZ (Msg×Nat)}{m:Msg}{p:Nat}(h0:tkIs l p 1 [109,101,115,115,97,103,101]=false)(h1:tkIs l p 1 [101,110,117,109]=false)(h2:tkIs l p 1 [111,110,101,111,102]=false)(h3:tkIs l p 1 [114,101,115,101,114,118,101,100]=false)(h:tkIs l p 1 [114,101,112,101,97,116,101,100]=true):CN l sub m p=BX m (JP l (T6 3 0) (p+1)):=by
 have e:=(GG (by decide)).1 h
 simp only[CN,e]
 rfl
theorem KU{l:List Tk}{sub:Nat->AZ (Msg×Nat)}{m:Msg}{p:Nat}(h0:tkIs l p 1 [109,101,115,115,97,103,101]=false)(h1:tkIs l p 1 [101,110,117,109]=false)(h2:tkIs l p 1 [111,110,101,111,102]=false)(h3:tkIs l p 1 [114,101,115,101,114,118,101,100]=false)(h4:tkIs l p 1 [114,101,112,101,97,116,101,100]=false)(h:tkIs l p 1 [111,112,116,105,111,110,97,108]=true):CN l sub m p=BX m (JP l (T6 2 0) (p+1)):=by
 have e:=(GG (by decide)).1 h
 simp only[CN,e]
 rfl
theorem VF{l:List Tk}{sub:Nat->AZ (Msg×Nat)}{m:Msg}{p:Nat}(h:tkIs l p 1 [109,97,112]=true)(h2:tkIs l (p+1) 4 [60]=true):CN l sub m p=BX m (DS l (p+1)):=by
 have e:=(GG (by decide)).1 h
 simp only[CN,e,h2]
 rfl
theorem T1{l:List Tk}{sub:Nat->AZ (Msg×Nat)}{m:Msg}{p:Nat}(h0:tkIs l p 1 [109,101,115,115,97,103,101]=false)(h1:tkIs l p 1 [101,110,117,109]=false)(h2:tkIs l p 1 [111,110,101,111,102]=false)(h3:tkIs l p 1 [114,101,115,101,114,118,101,100]=false)(h4:tkIs l p 1 [114,101,112,101,97,116,101,100]=false)(h5:tkIs l p 1 [111,112,116,105,111,110,97,108]=false)(h6:(tkIs l p 1 [109,97,112]&&tkIs l (p+1) 4 [60])=false):CN l sub m p=BX m (JP l (T6 1 0) p):=by
 have e0:=JF (by decide) h0
 have e1:=JF (by decide) h1
 have e2:=JF (by decide) h2
 have e3:=JF (by decide) h3
 have e4:=JF (by decide) h4
 have e5:=JF (by decide) h5
 have e6:(decide (S5 l p=[109,97,112])&&tkIs l (p+1) 4 [60])=false:=by
  cases h:tkIs l p 1 [109,97,112]with
  | true=>rw[h,Bool.true_and]at h6;rw[h6,Bool.and_false]
  | false=>rw[decide_eq_false (JF (by decide) h),Bool.false_and]
 simp only[CN,if_neg e0,if_neg e1,if_neg e2,if_neg e3,if_neg e4,if_neg e5,e6]
 rfl
def OF(E8 E9:Er)(l:List Tk)(w:Nat)(sub:Nat->AZ (Msg×Nat)):Prop:=∀ (m:Msg) (p:Nat),Small m 9000000000->p<=100000->EG Tryz.prog (gE E8 E9) 131 [.box 1 0,.box 3 3,.part (iP ((w:Int)+1))] (mS l m p) (pmR m) (NE l E8 E9 (ID m (sub p)))
set_option maxHeartbeats 2000000 in
theorem Q7f(E8 E9:Er)(l:List Tk)(hl:PTk l)(w:Nat)(hw:w<=8)(sub:Nat->AZ (Msg×Nat))(hM:OF E8 E9 l w sub)(m:Msg)(hm:Small m 1000000000)(p:Nat)(hp:p<=100000):EG Tryz.prog (gE E8 E9) 170 [.box 1 0,.box 3 0,.part (iP (w:Int))] (mS l m p) (pmR m) (NE l E8 E9 (CN l sub m p)):=by
 refine B4 68 Tryz.func170 rfl rfl rfl fun w D bor mb=>?_
 try refine A0 ?_
 have hll:=hl.len
 refine A1 (AE rfl rfl rfl rfl rfl .nil) ?_
 try refine A0 ?_
 refine A8 ?_
 refine AJ ?_
 refine AB (AC (ds:=[_]) [(0,_)] rfl ⟨rfl,(kn rfl),trivial⟩ rfl sl_54 sz_9 zr_9 (fun w D=>.cons (.cell _) (.nil _ _)) rfl rfl rfl rfl rfl) ?_
 refine AH rfl rfl rfl rfl (by kernel_rfl) (CR _ l hl [109,101,115,115,97,103,101] 1 rfl (by decide) p (by omega)) ⟨rfl,trivial⟩ trivial ⟨(kn rfl),⟨(kn rfl),trivial⟩⟩ (fun _ _ _ h=>PY.tidy h.1 h.2.1 h.2.2) ?_
 rintro _ _ _ ⟨rfl,rfl,rfl⟩
 refine AG ?_
 refine A6 ?_
 try refine A0 ?_
 refine AO rfl (fun h0=>?_) (fun h0=>?_)
 ·have hlt:=B7 h0
  rw[h0]
  try refine A0 ?_
  refine A8 ?_
  refine AJ ?_
  refine AJ ?_
  refine AB (AL rfl (kn rfl)) ?_
  refine AB (A3 rfl (kn rfl) off_204_3) ?_
  refine AJ ?_
  refine AB (AN rfl (kn rfl) (kn rfl) (BF (by first | omega | (dsimp only;omega)))) ?_
  refine AH rfl rfl rfl rfl (by kernel_rfl) (hM m (p+1) (hm.mono (by omega)) (by omega)) ⟨rfl,rfl,trivial⟩ ⟨rfl,rfl,rfl,rfl,rfl,rfl,trivial⟩ ⟨(kn rfl),⟨(kn rfl),⟨(kn rfl),trivial⟩⟩⟩ (NE.tidy) ?_
  rintro _ _ _ (⟨a,b,z,g,he,rfl,rfl,rfl⟩ | ⟨g,z,ho,rfl,rfl,rfl⟩)
  ·refine AG ?_
   refine A6 ?_
   try refine A0 ?_
   exact A7 (mS l g z) (pmR g) rfl (.tmp (kn rfl) (.nil)) (Imp.refl _) ⟨s_b,s_b,trivial⟩ ⟨rfl,rfl,rfl,rfl,rfl,rfl,trivial⟩ (.inl ⟨a,b,z,g,by rw[LG  h0];exact he,rfl,rfl,rfl⟩)
  refine AG ?_
  refine A6 ?_
  try refine A0 ?_
  exact A7 (mS l g z) (pmR g) rfl (.tmp (kn rfl) (.nil)) (Imp.refl _) ⟨s_b,s_b,trivial⟩ ⟨rfl,rfl,rfl,rfl,rfl,rfl,trivial⟩ (.inr ⟨g,z,by rw[LG  h0];exact ho,rfl,rfl,rfl⟩)
 rw[h0]
 try refine A0 ?_
 refine A8 ?_
 refine AJ ?_
 refine AB (AC (ds:=[_]) [(0,_)] rfl ⟨rfl,(kn rfl),trivial⟩ rfl sl_54 sz_9 zr_9 (fun w D=>.cons (.cell _) (.nil _ _)) rfl rfl rfl rfl rfl) ?_
 refine AH rfl rfl rfl rfl (by kernel_rfl) (CR _ l hl [101,110,117,109] 1 rfl (by decide) p (by omega)) ⟨rfl,trivial⟩ trivial ⟨(kn rfl),⟨(kn rfl),trivial⟩⟩ (fun _ _ _ h=>PY.tidy h.1 h.2.1 h.2.2) ?_
 rintro _ _ _ ⟨rfl,rfl,rfl⟩
 refine AG ?_
 refine A6 ?_
 try refine A0 ?_
 refine AO rfl (fun h1=>?_) (fun h1=>?_)
 ·have hlt:=B7 h1
  rw[h1]
  try refine A0 ?_
  refine A8 ?_
  refine AJ ?_
  refine AJ ?_
  refine AB (AL rfl (kn rfl)) ?_
  refine AB (A3 rfl (kn rfl) off_204_4) ?_
  refine AH rfl rfl rfl rfl (by kernel_rfl) (Q5t E8 E9 l hl m (hm.mono (by omega)) (p+1) (by omega)) ⟨rfl,rfl,trivial⟩ ⟨rfl,rfl,rfl,rfl,rfl,rfl,trivial⟩ ⟨(kn rfl),⟨(kn rfl),trivial⟩⟩ (NE.tidy) ?_
  rintro _ _ _ (⟨a,b,z,g,he,rfl,rfl,rfl⟩ | ⟨g,z,ho,rfl,rfl,rfl⟩)
  ·refine AG ?_
   refine A6 ?_
   try refine A0 ?_
   exact A7 (mS l g z) (pmR g) rfl (.tmp (kn rfl) (.nil)) (Imp.refl _) ⟨s_b,s_b,trivial⟩ ⟨rfl,rfl,rfl,rfl,rfl,rfl,trivial⟩ (.inl ⟨a,b,z,g,by rw[S9 h0 h1];exact he,rfl,rfl,rfl⟩)
  refine AG ?_
  refine A6 ?_
  try refine A0 ?_
  exact A7 (mS l g z) (pmR g) rfl (.tmp (kn rfl) (.nil)) (Imp.refl _) ⟨s_b,s_b,trivial⟩ ⟨rfl,rfl,rfl,rfl,rfl,rfl,trivial⟩ (.inr ⟨g,z,by rw[S9 h0 h1];exact ho,rfl,rfl,rfl⟩)
 rw[h1]
 try refine A0 ?_
 refine A8 ?_
 refine AJ ?_
 refine AB (AC (ds:=[_]) [(0,_)] rfl ⟨rfl,(kn rfl),trivial⟩ rfl sl_54 sz_9 zr_9 (fun w D=>.cons (.cell _) (.nil _ _)) rfl rfl rfl rfl rfl) ?_
 refine AH rfl rfl rfl rfl (by kernel_rfl) (CR _ l hl [111,110,101,111,102] 1 rfl (by decide) p (by omega)) ⟨rfl,trivial⟩ trivial ⟨(kn rfl),⟨(kn rfl),trivial⟩⟩ (fun _ _ _ h=>PY.tidy h.1 h.2.1 h.2.2) ?_
 rintro _ _ _ ⟨rfl,rfl,rfl⟩
 refine AG ?_
 refine A6 ?_
 try refine A0 ?_
 refine AO rfl (fun h2=>?_) (fun h2=>?_)
 ·have hlt:=B7 h2
  rw[h2]
  try refine A0 ?_
  refine A8 ?_
  refine AJ ?_
  refine AJ ?_
  refine AH rfl rfl rfl rfl (by kernel_rfl) (Q58 E8 E9 l hl m (p+1) (hm.mono (by omega)) (by omega)) ⟨rfl,rfl,trivial⟩ ⟨rfl,rfl,rfl,rfl,rfl,rfl,trivial⟩ ⟨(kn rfl),⟨(kn rfl),trivial⟩⟩ (NE.tidy) ?_
  rintro _ _ _ (⟨a,b,z,g,he,rfl,rfl,rfl⟩ | ⟨g,z,ho,rfl,rfl,rfl⟩)
  ·refine AG ?_
   refine A6 ?_
   try refine A0 ?_
   exact A7 (mS l g z) (pmR g) rfl (.tmp (kn rfl) (.nil)) (Imp.refl _) ⟨s_b,s_b,trivial⟩ ⟨rfl,rfl,rfl,rfl,rfl,rfl,trivial⟩ (.inl ⟨a,b,z,g,by rw[OU h0 h1 h2];exact he,rfl,rfl,rfl⟩)
  refine AG ?_
  refine A6 ?_
  try refine A0 ?_
  exact A7 (mS l g z) (pmR g) rfl (.tmp (kn rfl) (.nil)) (Imp.refl _) ⟨s_b,s_b,trivial⟩ ⟨rfl,rfl,rfl,rfl,rfl,rfl,trivial⟩ (.inr ⟨g,z,by rw[OU h0 h1 h2];exact ho,rfl,rfl,rfl⟩)
 rw[h2]
 try refine A0 ?_
 refine A8 ?_
 refine AJ ?_
 refine AB (AC (ds:=[_]) [(0,_)] rfl ⟨rfl,(kn rfl),trivial⟩ rfl sl_54 sz_9 zr_9 (fun w D=>.cons (.cell _) (.nil _ _)) rfl rfl rfl rfl rfl) ?_
 refine AH rfl rfl rfl rfl (by kernel_rfl) (CR _ l hl [114,101,115,101,114,118,101,100] 1 rfl (by decide) p (by omega)) ⟨rfl,trivial⟩ trivial ⟨(kn rfl),⟨(kn rfl),trivial⟩⟩ (fun _ _ _ h=>PY.tidy h.1 h.2.1 h.2.2) ?_
 rintro _ _ _ ⟨rfl,rfl,rfl⟩
 refine AG ?_
 refine A6 ?_
 try refine A0 ?_
 refine AO rfl (fun h3=>?_) (fun h3=>?_)
 ·have hlt:=B7 h3
  rw[h3]
  try refine A0 ?_
  refine A8 ?_
  refine AJ ?_
  refine AJ ?_
  refine AH rfl rfl rfl rfl (by kernel_rfl) (Q01 E8 E9 l hl m (hm.mono (by omega)) (p+1) (by omega)) ⟨rfl,rfl,trivial⟩ ⟨rfl,rfl,rfl,rfl,rfl,rfl,trivial⟩ ⟨(kn rfl),⟨(kn rfl),trivial⟩⟩ (NE.tidy) ?_
  rintro _ _ _ (⟨a,b,z,g,he,rfl,rfl,rfl⟩ | ⟨g,z,ho,rfl,rfl,rfl⟩)
  ·refine AG ?_
   refine A6 ?_
   try refine A0 ?_
   exact A7 (mS l g z) (pmR g) rfl (.tmp (kn rfl) (.nil)) (Imp.refl _) ⟨s_b,s_b,trivial⟩ ⟨rfl,rfl,rfl,rfl,rfl,rfl,trivial⟩ (.inl ⟨a,b,z,g,by rw[K1 h0 h1 h2 h3];exact he,rfl,rfl,rfl⟩)
  refine AG ?_
  refine A6 ?_
  try refine A0 ?_
  exact A7 (mS l g z) (pmR g) rfl (.tmp (kn rfl) (.nil)) (Imp.refl _) ⟨s_b,s_b,trivial⟩ ⟨rfl,rfl,rfl,rfl,rfl,rfl,trivial⟩ (.inr ⟨g,z,by rw[K1 h0 h1 h2 h3];exact ho,rfl,rfl,rfl⟩)
 rw[h3]
 try refine A0 ?_
 refine A8 ?_
 refine AJ ?_
 refine AB (AC (ds:=[_]) [(0,_)] rfl ⟨rfl,(kn rfl),trivial⟩ rfl sl_54 sz_9 zr_9 (fun w D=>.cons (.cell _) (.nil _ _)) rfl rfl rfl rfl rfl) ?_
 refine AH rfl rfl rfl rfl (by kernel_rfl) (CR _ l hl [114,101,112,101,97,116,101,100] 1 rfl (by decide) p (by omega)) ⟨rfl,trivial⟩ trivial ⟨(kn rfl),⟨(kn rfl),trivial⟩⟩ (fun _ _ _ h=>PY.tidy h.1 h.2.1 h.2.2) ?_
 rintro _ _ _ ⟨rfl,rfl,rfl⟩
 refine AG ?_
 refine A6 ?_
 try refine A0 ?_
 refine AO rfl (fun h4=>?_) (fun h4=>?_)
 ·have hlt:=B7 h4
  rw[h4]
  try refine A0 ?_
  refine A8 ?_
  refine AJ ?_
  refine AJ ?_
  refine AB (B9 (ds:=[_,_,_,_,_,_,_,_,_,_]) [(4,_)] rfl ⟨rfl,(kn rfl),trivial⟩ rfl pl_210 zr_210 (fun w D=>.cons (.cell _) (.cons (.cell _) (.cons (.cell _) (.cons (.cell _) (.cons (.cell _) (.cons (.cell _) (.cons (.cell _) (.cons (.cell _) (.cons (.cell _) (.cons (.cell _) (.nil _ _))))))))))) rfl) ?_
  refine AH rfl rfl rfl rfl (by kernel_rfl) (PU E8 E9 l hl m (hm.mono (by omega)) (T6 3 0) (p+1) (by omega)) ⟨rfl,rfl,trivial⟩ ⟨rfl,rfl,rfl,rfl,rfl,rfl,trivial⟩ ⟨(kn rfl),⟨(kn rfl),⟨(kn rfl),trivial⟩⟩⟩ (NE.tidy) ?_
  rintro _ _ _ (⟨a,b,z,g,he,rfl,rfl,rfl⟩ | ⟨g,z,ho,rfl,rfl,rfl⟩)
  ·refine AG ?_
   refine A6 ?_
   try refine A0 ?_
   exact A7 (mS l g z) (pmR g) rfl (.tmp (kn rfl) (.nil)) (Imp.refl _) ⟨s_b,s_b,trivial⟩ ⟨rfl,rfl,rfl,rfl,rfl,rfl,trivial⟩ (.inl ⟨a,b,z,g,by rw[KO h0 h1 h2 h3 h4];exact he,rfl,rfl,rfl⟩)
  refine AG ?_
  refine A6 ?_
  try refine A0 ?_
  exact A7 (mS l g z) (pmR g) rfl (.tmp (kn rfl) (.nil)) (Imp.refl _) ⟨s_b,s_b,trivial⟩ ⟨rfl,rfl,rfl,rfl,rfl,rfl,trivial⟩ (.inr ⟨g,z,by rw[KO h0 h1 h2 h3 h4];exact ho,rfl,rfl,rfl⟩)
 rw[h4]
 try refine A0 ?_
 refine A8 ?_
 refine AJ ?_
 refine AB (AC (ds:=[_]) [(0,_)] rfl ⟨rfl,(kn rfl),trivial⟩ rfl sl_54 sz_9 zr_9 (fun w D=>.cons (.cell _) (.nil _ _)) rfl rfl rfl rfl rfl) ?_
 refine AH rfl rfl rfl rfl (by kernel_rfl) (CR _ l hl [111,112,116,105,111,110,97,108] 1 rfl (by decide) p (by omega)) ⟨rfl,trivial⟩ trivial ⟨(kn rfl),⟨(kn rfl),trivial⟩⟩ (fun _ _ _ h=>PY.tidy h.1 h.2.1 h.2.2) ?_
 rintro _ _ _ ⟨rfl,rfl,rfl⟩
 refine AG ?_
 refine A6 ?_
 try refine A0 ?_
 refine AO rfl (fun h5=>?_) (fun h5=>?_)
 ·have hlt:=B7 h5
  rw[h5]
  try refine A0 ?_
  refine A8 ?_
  refine AJ ?_
  refine AJ ?_
  refine AB (B9 (ds:=[_,_,_,_,_,_,_,_,_,_]) [(4,_)] rfl ⟨rfl,(kn rfl),trivial⟩ rfl pl_210 zr_210 (fun w D=>.cons (.cell _) (.cons (.cell _) (.cons (.cell _) (.cons (.cell _) (.cons (.cell _) (.cons (.cell _) (.cons (.cell _) (.cons (.cell _) (.cons (.cell _) (.cons (.cell _) (.nil _ _))))))))))) rfl) ?_
  refine AH rfl rfl rfl rfl (by kernel_rfl) (PU E8 E9 l hl m (hm.mono (by omega)) (T6 2 0) (p+1) (by omega)) ⟨rfl,rfl,trivial⟩ ⟨rfl,rfl,rfl,rfl,rfl,rfl,trivial⟩ ⟨(kn rfl),⟨(kn rfl),⟨(kn rfl),trivial⟩⟩⟩ (NE.tidy) ?_
  rintro _ _ _ (⟨a,b,z,g,he,rfl,rfl,rfl⟩ | ⟨g,z,ho,rfl,rfl,rfl⟩)
  ·refine AG ?_
   refine A6 ?_
   try refine A0 ?_
   exact A7 (mS l g z) (pmR g) rfl (.tmp (kn rfl) (.nil)) (Imp.refl _) ⟨s_b,s_b,trivial⟩ ⟨rfl,rfl,rfl,rfl,rfl,rfl,trivial⟩ (.inl ⟨a,b,z,g,by rw[KU h0 h1 h2 h3 h4 h5];exact he,rfl,rfl,rfl⟩)
  refine AG ?_
  refine A6 ?_
  try refine A0 ?_
  exact A7 (mS l g z) (pmR g) rfl (.tmp (kn rfl) (.nil)) (Imp.refl _) ⟨s_b,s_b,trivial⟩ ⟨rfl,rfl,rfl,rfl,rfl,rfl,trivial⟩ (.inr ⟨g,z,by rw[KU h0 h1 h2 h3 h4 h5];exact ho,rfl,rfl,rfl⟩)
 rw[h5]
 try refine A0 ?_
 refine A8 ?_
 refine AJ ?_
 refine AB (AC (ds:=[_,_]) [(0,_),(1,_)] rfl ⟨rfl,(kn rfl),⟨rfl,(kn rfl),trivial⟩⟩ rfl sl_54 sz_9 zr_9 (fun w D=>.cons (.cell _) (.cons (.cell _) (.nil _ _))) rfl rfl rfl rfl rfl) ?_
 refine AH rfl rfl rfl rfl (by kernel_rfl) (Q47 _ l hl [[109,97,112],[60]] (by decide) (by decide) p (by omega)) ⟨rfl,trivial⟩ trivial ⟨(kn rfl),⟨(kn rfl),trivial⟩⟩ (fun _ _ _ h=>PY.tidy h.1 h.2.1 h.2.2) ?_
 rintro _ _ _ ⟨rfl,rfl,rfl⟩
 refine AG ?_
 refine A6 ?_
 try refine A0 ?_
 have hmap:EN l [[109,97,112],[60]] p=(tkIs l p 1 [109,97,112]&&tkIs l (p+1) 4 [60]):=by
  simp only[EN,Bool.and_true]
  rfl
 refine AO rfl (fun h6=>?_) (fun h6=>?_)
 ·have h7:=h6
  rw[hmap,Bool.and_eq_true]at h7
  have hlt:=B7 h7.2
  rw[h6]
  try refine A0 ?_
  refine A8 ?_
  refine AJ ?_
  refine AJ ?_
  refine AH rfl rfl rfl rfl (by kernel_rfl) (Q0A E8 E9 l hl m (hm.mono (by omega)) (p+1) (by omega) h7.2) ⟨rfl,rfl,trivial⟩ ⟨rfl,rfl,rfl,rfl,rfl,rfl,trivial⟩ ⟨(kn rfl),⟨(kn rfl),trivial⟩⟩ (NE.tidy) ?_
  rintro _ _ _ (⟨a,b,z,g,he,rfl,rfl,rfl⟩ | ⟨g,z,ho,rfl,rfl,rfl⟩)
  ·refine AG ?_
   refine A6 ?_
   try refine A0 ?_
   exact A7 (mS l g z) (pmR g) rfl (.tmp (kn rfl) (.nil)) (Imp.refl _) ⟨s_b,s_b,trivial⟩ ⟨rfl,rfl,rfl,rfl,rfl,rfl,trivial⟩ (.inl ⟨a,b,z,g,by rw[VF h7.1 h7.2];exact he,rfl,rfl,rfl⟩)
  refine AG ?_
  refine A6 ?_
  try refine A0 ?_
  exact A7 (mS l g z) (pmR g) rfl (.tmp (kn rfl) (.nil)) (Imp.refl _) ⟨s_b,s_b,trivial⟩ ⟨rfl,rfl,rfl,rfl,rfl,rfl,trivial⟩ (.inr ⟨g,z,by rw[VF h7.1 h7.2];exact ho,rfl,rfl,rfl⟩)
 have h7:=h6
 rw[hmap]at h7
 rw[h6]
 try refine A0 ?_
 refine A8 ?_
 refine AJ ?_
 refine AJ ?_
 refine AB (B9 (ds:=[_,_,_,_,_,_,_,_,_,_]) [(4,_)] rfl ⟨rfl,(kn rfl),trivial⟩ rfl pl_210 zr_210 (fun w D=>.cons (.cell _) (.cons (.cell _) (.cons (.cell _) (.cons (.cell _) (.cons (.cell _) (.cons (.cell _) (.cons (.cell _) (.cons (.cell _) (.cons (.cell _) (.cons (.cell _) (.nil _ _))))))))))) rfl) ?_
 refine AH rfl rfl rfl rfl (by kernel_rfl) (PU E8 E9 l hl m (hm.mono (by omega)) (T6 1 0) p (by omega)) ⟨rfl,rfl,trivial⟩ ⟨rfl,rfl,rfl,rfl,rfl,rfl,trivial⟩ ⟨(kn rfl),⟨(kn rfl),⟨(kn rfl),trivial⟩⟩⟩ (NE.tidy) ?_
 rintro _ _ _ (⟨a,b,z,g,he,rfl,rfl,rfl⟩ | ⟨g,z,ho,rfl,rfl,rfl⟩)
 ·refine AG ?_
  refine A6 ?_
  try refine A0 ?_
  exact A7 (mS l g z) (pmR g) rfl (.tmp (kn rfl) (.nil)) (Imp.refl _) ⟨s_b,s_b,trivial⟩ ⟨rfl,rfl,rfl,rfl,rfl,rfl,trivial⟩ (.inl ⟨a,b,z,g,by rw[T1 h0 h1 h2 h3 h4 h5 h7];exact he,rfl,rfl,rfl⟩)
 refine AG ?_
 refine A6 ?_
 try refine A0 ?_
 exact A7 (mS l g z) (pmR g) rfl (.tmp (kn rfl) (.nil)) (Imp.refl _) ⟨s_b,s_b,trivial⟩ ⟨rfl,rfl,rfl,rfl,rfl,rfl,trivial⟩ (.inr ⟨g,z,by rw[T1 h0 h1 h2 h3 h4 h5 h7];exact ho,rfl,rfl,rfl⟩)
abbrev inX(wi:Nat):Bx:=⟨3,[.is (.int .i64 (wi:Int))]⟩
abbrev mW(l:List Tk)(wi:Nat)(m:Msg)(q:Nat):BL:=[(4,ptX),(10,inX wi),(1,pX l q),(3,pmX m)]
abbrev VM(l:List Tk)(E8 E9:Er)(wi:Nat)(r:AZ (Msg×Nat))(y:IV)(B1:BL)(R1:RL):Prop:=ME l E8 E9 (mW l wi) pmR r y B1 R1
theorem VM.tidy{l:List Tk}{E8 E9:Er}{wi:Nat}{r:AZ (Msg×Nat)}{m:Msg}{q:Nat}(y:IV)(B1:BL)(R1:RL)(h:VM l E8 E9 wi r y B1 R1):H0 (mW l wi m q) (pmR m) y B1 R1:=by
 rcases h with⟨a,b,z,x,_,rfl,rfl,rfl⟩ | ⟨x,z,_,rfl,rfl,rfl⟩<;>exact⟨rfl,rfl,rfl,rfl⟩
abbrev Q7C:IV:=.clo (.func 169) [] [.box 4 0,.box 3 0,.box 10 0]
theorem Q4r(E8 E9:Er)(l:List Tk)(hl:PTk l)(wi:Nat)(hw:wi<=8)(sub:Nat->AZ (Msg×Nat))(hM:OF E8 E9 l wi sub)(m:Msg)(hm:Small m 1000000000)(p:Nat)(hp:p<=100000):EG Tryz.prog (gE E8 E9) 169 [.box 4 0,.box 3 0,.box 10 0] (mW l wi m p) (pmR m) (VM l E8 E9 wi (CN l sub m p)):=by
 refine B4 7 Tryz.func169 rfl rfl rfl fun w D bor mb=>?_
 try refine A0 ?_
 refine A1 (AE rfl rfl rfl rfl rfl .nil) ?_
 try refine A0 ?_
 refine A8 ?_
 refine AB (A4 rfl (kn rfl) rfl rfl one_183) ?_
 refine AB (A4 rfl (kn rfl) rfl rfl one_3) ?_
 refine AH rfl rfl rfl rfl (by kernel_rfl) (Q7f E8 E9 l hl wi hw sub hM m hm p hp) ⟨rfl,rfl,trivial⟩ ⟨rfl,rfl,rfl,rfl,rfl,rfl,trivial⟩ ⟨(kn rfl),⟨(kn rfl),⟨(kn rfl),trivial⟩⟩⟩ (NE.tidy) ?_
 rintro _ _ _ (⟨a,b,z,g,he,rfl,rfl,rfl⟩ | ⟨g,z,ho,rfl,rfl,rfl⟩)
 ·refine AG ?_
  refine A6 ?_
  try refine A0 ?_
  exact A7 (mW l wi g z) (pmR g) rfl (.tmp (kn rfl) (.nil)) (Imp.refl _) ⟨s_b,s_b,s_b,s_b,trivial⟩ ⟨rfl,rfl,rfl,rfl,rfl,rfl,trivial⟩ (.inl ⟨a,b,z,g,he,rfl,rfl,rfl⟩)
 ·refine AG ?_
  refine A6 ?_
  try refine A0 ?_
  exact A7 (mW l wi g z) (pmR g) rfl (.tmp (kn rfl) (.nil)) (Imp.refl _) ⟨s_b,s_b,s_b,s_b,trivial⟩ ⟨rfl,rfl,rfl,rfl,rfl,rfl,trivial⟩ (.inr ⟨g,z,ho,rfl,rfl,rfl⟩)
def QF(m:Msg)(z:Nat):Prop:=FineTo m z
set_option maxHeartbeats 2000000 in
theorem Q7D(E8 E9:Er)(l:List Tk)(hl:PTk l)(wi:Nat)(hw8:wi<=8)(sub:Nat->AZ (Msg×Nat))(hM:OF E8 E9 l wi sub)(hst:Steps l sub)(hsf:∀ p x q,sub p=.ok (x,q)->x.fine)(x0:Msg)(p:Nat)(hp:p<=100000)(hx0:∀ q,p<q->QF x0 q):EG Tryz.prog (gE E8 E9) 168 [.box 1 0,.part (iP 0),Q7C] (mW l wi x0 p) (pmR x0) (ME l E8 E9 (mW l wi) (pmR) (E5 l 0 (CN l sub) x0 p)):=by
 refine B4 35 Tryz.func168 rfl rfl rfl fun w D bor mb=>?_
 try refine A0 ?_
 have hll:=hl.len
 obtain⟨rr,hrr⟩:∃ rr,rr=E5 l 0 (CN l sub) x0 p:=⟨_,rfl⟩
 rw[<- hrr]
 refine A1 (AE rfl rfl rfl rfl rfl .nil) ?_
 try refine A0 ?_
 refine A8 ?_
 refine AJ ?_
 refine AB (AC (ds:=[_]) [(0,_)] rfl ⟨rfl,(kn rfl),trivial⟩ rfl sl_54 sz_9 zr_9 (fun w D=>.cons (.cell _) (.nil _ _)) rfl rfl rfl rfl rfl) ?_
 refine AH rfl rfl rfl rfl (by kernel_rfl) (D4 E8 E9 l hl 4 [123] rfl (by decide) p (by omega)) ⟨rfl,trivial⟩ trivial ⟨(kn rfl),⟨(kn rfl),trivial⟩⟩ (PE.tidy) ?_
 rintro _ _ _ (⟨a,b,z,he,rfl,rfl,rfl⟩ | ⟨q0,ho,rfl,rfl,rfl⟩)
 ·refine AG ?_
  refine A6 ?_
  try refine A0 ?_
  refine A1 (AA rfl rfl rfl rfl rfl (A5 rfl rfl rfl (AP rfl (kn rfl) rfl ifc_28) .nil)) ?_
  try refine A0 ?_
  refine BD ?_
  try refine A0 ?_
  refine A1 (AA rfl rfl rfl rfl rfl (AE rfl rfl rfl rfl rfl .nil)) ?_
  try refine A0 ?_
  exact A7 (mW l wi x0 z) (pmR x0) rfl (.tmp (kn rfl) (.nil)) (Imp.refl _) ⟨s_b,s_b,s_b,s_b,trivial⟩ ⟨rfl,rfl,rfl,rfl,rfl,rfl,trivial⟩ (.inl ⟨a,b,z,x0,by rw[hrr,E5,he],rfl,rfl,rfl⟩)
 have ho1:=BA ho
 refine AG ?_
 refine A6 ?_
 try refine A0 ?_
 refine A1 (AA rfl rfl rfl rfl rfl (A5 rfl rfl rfl (AQ rfl (kn rfl) ifc_28) .nil)) ?_
 try refine A0 ?_
 refine C1 ?_
 try refine A0 ?_
 refine A1 (AE rfl rfl rfl rfl rfl .nil) ?_
 try refine A0 ?_
 rw[E5,ho]at hrr
 dsimp only at hrr
 refine CB (ι:={ i:Nat×Msg×Nat×Nat // 1<=i.1/\l.length+1<=i.1+i.2.2.2/\i.2.2.2<=l.length/\i.2.2.1<=i.2.2.2/\QF i.2.1 i.2.2.2/\rr=K0 l 0 (CN l sub) i.1 i.2.1 i.2.2.1 i.2.2.2 })
  (fun i=>[(0,.box 1 0),(1,.part (iP 0)),(2,Q7C),(8,.is (.int .i64 (i.1.2.2.1:Int)))])
  (fun i=>mW l wi i.1.2.1 i.1.2.2.2) (fun i=>pmR i.1.2.1)
  (fun i=>i.1.1) ⟨(l.length+1,x0,0,q0),by omega,by dsimp only;omega,by dsimp only;omega,by dsimp only;omega,hx0 q0 (by omega),hrr⟩
  (fun K=>B8 ⟨s_t,s_t,s_t,s_t,trivial⟩ ⟨s_b,s_b,s_b,s_b,trivial⟩ ⟨rfl,rfl,rfl,rfl,rfl,rfl,trivial⟩) ?_
 rintro⟨⟨n',x,k,q⟩,hn1,hn,hq,hk,hbd,hw⟩
 dsimp only at hn1 hn hq hk hbd hw ⊢
 obtain⟨n,rfl⟩:∃ n,n'=n+1:=⟨n'-1,by omega⟩
 rw[K0]at hw
 try refine A0 ?_
 refine A8 ?_
 refine AJ ?_
 refine AJ ?_
 refine AB (AN rfl (kn rfl) (kn rfl) CP) ?_
 refine AJ ?_
 refine C6 rfl rfl rfl (fun h=>C8 rfl (kn rfl)) ?_
 refine C6 rfl rfl rfl (fun h=>AC (ds:=[_]) [(0,_)] rfl ⟨rfl,(kn rfl),trivial⟩ rfl sl_54 sz_9 zr_9 (fun w D=>.cons (.cell _) (.nil _ _)) rfl rfl rfl rfl rfl) ?_
 refine L2 rfl rfl rfl (fun h=>?_) (fun h=>?_)
 ·have hkl:¬ k<0:=by
   have h0:=of_decide_eq_false (J0 h)
   omega
  refine AH rfl rfl rfl rfl (by kernel_rfl) (CR _ l hl [125] 4 rfl (by decide) q (by omega)) ⟨rfl,trivial⟩ trivial ⟨(A9 rfl h),⟨(A9 rfl h),trivial⟩⟩ (fun _ _ _ h=>PY.tidy h.1 h.2.1 h.2.2) ?_
  rintro _ _ _ ⟨rfl,rfl,rfl⟩
  refine C6 rfl rfl rfl (fun h=>DL rfl (kn rfl)) ?_
  refine AB (EJ rfl (kn rfl) (fun hb=>A9 rfl hb)) ?_
  refine A6 ?_
  try refine A0 ?_
  have h0:=J0 h
  rw[h0,Bool.false_or]
  rw[decide_eq_false hkl,Bool.false_or]at hw
  cases h1:tkIs l q 4 [125]
  ·rw[h1]at hw
   rw[if_neg (by decide)]at hw
   refine BD ?_
   try refine A0 ?_
   refine A8 ?_
   refine AJ ?_
   refine AB (AC (ds:=[_]) [(0,_)] rfl ⟨rfl,(kn rfl),trivial⟩ rfl sl_54 sz_9 zr_9 (fun w D=>.cons (.cell _) (.nil _ _)) rfl rfl rfl rfl rfl) ?_
   refine AH rfl rfl rfl rfl (by kernel_rfl) (CR _ l hl [59] 4 rfl (by decide) q (by omega)) ⟨rfl,trivial⟩ trivial ⟨(kn rfl),⟨(kn rfl),trivial⟩⟩ (fun _ _ _ h=>PY.tidy h.1 h.2.1 h.2.2) ?_
   rintro _ _ _ ⟨rfl,rfl,rfl⟩
   refine A6 ?_
   try refine A0 ?_
   refine AO rfl (fun h2=>?_) (fun h2=>?_)
   ·have hlt:=B7 h2
    rw[if_pos h2]at hw
    rw[h2]
    try refine A0 ?_
    refine BB ⟨(n,x,k,q+1),by omega,by dsimp only;omega,by dsimp only;omega,by dsimp only;omega,⟨hbd.1.mono (by dsimp only;omega),hbd.2⟩,hw⟩ (by dsimp only;omega) (fun K=>B8 ⟨s_t,s_t,s_t,s_t,trivial⟩ ⟨s_b,s_b,s_b,s_b,trivial⟩ ⟨rfl,rfl,rfl,rfl,rfl,rfl,trivial⟩)
   rw[if_neg (by rw[h2];decide)]at hw
   rw[h2]
   try refine A0 ?_
   refine A8 ?_
   refine AJ ?_
   refine F9 (zs:=[]) rfl rfl rfl rfl (by kernel_rfl) (Q4r E8 E9 l hl wi hw8 sub hM x (hbd.1.mono (by omega)) q (by omega)) ⟨rfl,rfl,rfl,rfl,trivial⟩ ⟨rfl,rfl,rfl,rfl,rfl,rfl,trivial⟩ (kn rfl) trivial rfl (VM.tidy) ?_
   rintro _ _ _ (⟨a,b,z,g,he,rfl,rfl,rfl⟩ | ⟨y,r,ho,rfl,rfl,rfl⟩)
   ·refine AG ?_
    refine A6 ?_
    try refine A0 ?_
    refine A1 (AA rfl rfl rfl rfl rfl (A5 rfl rfl rfl (AP rfl (kn rfl) rfl ifc_28) .nil)) ?_
    try refine A0 ?_
    refine BD ?_
    try refine A0 ?_
    refine A1 (AA rfl rfl rfl rfl rfl (AE rfl rfl rfl rfl rfl .nil)) ?_
    try refine A0 ?_
    exact A7 (mW l wi g z) (pmR g) rfl (.tmp (kn rfl) (.nil)) (Imp.refl _) ⟨s_b,s_b,s_b,s_b,trivial⟩ ⟨rfl,rfl,rfl,rfl,rfl,rfl,trivial⟩ (.inl ⟨a,b,z,g,by rw[hw,he],rfl,rfl,rfl⟩)
   rw[ho]at hw
   dsimp only at hw
   have hv:=FR hst ho
   have hby:QF y r:=by
    have h:=LR hl.len hst hsf hbd ho
    rwa [show q+(r-q)=r by omega]at h
   refine AG ?_
   refine A6 ?_
   try refine A0 ?_
   refine A1 (AA rfl rfl rfl rfl rfl (A5 rfl rfl rfl (AQ rfl (kn rfl) ifc_28) .nil)) ?_
   try refine A0 ?_
   refine C1 ?_
   try refine A0 ?_
   refine A1 (AA rfl rfl rfl rfl rfl (A5 rfl rfl rfl (AN rfl (kn rfl) (kn rfl) (BF (by first | omega | (dsimp only;omega)))) (AE rfl rfl rfl rfl rfl .nil))) ?_
   try refine A0 ?_
   refine BB ⟨(n,y,k+1,r),by omega,by dsimp only;omega,by dsimp only;omega,by dsimp only;omega,hby,hw⟩ (by dsimp only;omega) (fun K=>B8 ⟨s_t,s_t,s_t,s_t,trivial⟩ ⟨s_b,s_b,s_b,s_b,trivial⟩ ⟨rfl,rfl,rfl,rfl,rfl,rfl,trivial⟩)
  ·rw[h1]at hw
   rw[if_pos (by decide)]at hw
   refine C1 ?_
   try refine A0 ?_
   refine A1 (AE rfl rfl rfl rfl rfl .nil) ?_
   try refine A0 ?_
   exact A7 (mW l wi x (q+1)) (pmR x) rfl (.tmp (kn rfl) (.nil)) (Imp.refl _) ⟨s_b,s_b,s_b,s_b,trivial⟩ ⟨rfl,rfl,rfl,rfl,rfl,rfl,trivial⟩ (.inr ⟨x,q+1,hw,rfl,rfl,rfl⟩)
 ·have hkl:k<0:=by
   have h0:=of_decide_eq_true (IB h)
   omega
  have h0:=IB h
  refine C6 (y:=.is (.bool false)) rfl rfl rfl (fun h'=>absurd (h'.symm.trans h) (by decide)) ?_
  refine AB (EJ rfl (kn rfl) (fun hb=>A9 rfl hb)) ?_
  refine A6 ?_
  try refine A0 ?_
  rw[h0,Bool.true_or]
  rw[decide_eq_true hkl,Bool.true_or]at hw
  rw[if_neg (by decide)]at hw
  refine BD ?_
  try refine A0 ?_
  refine A8 ?_
  refine AJ ?_
  refine AB (AC (ds:=[_]) [(0,_)] rfl ⟨rfl,(kn rfl),trivial⟩ rfl sl_54 sz_9 zr_9 (fun w D=>.cons (.cell _) (.nil _ _)) rfl rfl rfl rfl rfl) ?_
  refine AH rfl rfl rfl rfl (by kernel_rfl) (CR _ l hl [59] 4 rfl (by decide) q (by omega)) ⟨rfl,trivial⟩ trivial ⟨(kn rfl),⟨(kn rfl),trivial⟩⟩ (fun _ _ _ h=>PY.tidy h.1 h.2.1 h.2.2) ?_
  rintro _ _ _ ⟨rfl,rfl,rfl⟩
  refine A6 ?_
  try refine A0 ?_
  refine AO rfl (fun h2=>?_) (fun h2=>?_)
  ·have hlt:=B7 h2
   rw[if_pos h2]at hw
   rw[h2]
   try refine A0 ?_
   refine BB ⟨(n,x,k,q+1),by omega,by dsimp only;omega,by dsimp only;omega,by dsimp only;omega,⟨hbd.1.mono (by dsimp only;omega),hbd.2⟩,hw⟩ (by dsimp only;omega) (fun K=>B8 ⟨s_t,s_t,s_t,s_t,trivial⟩ ⟨s_b,s_b,s_b,s_b,trivial⟩ ⟨rfl,rfl,rfl,rfl,rfl,rfl,trivial⟩)
  rw[if_neg (by rw[h2];decide)]at hw
  rw[h2]
  try refine A0 ?_
  refine A8 ?_
  refine AJ ?_
  refine F9 (zs:=[]) rfl rfl rfl rfl (by kernel_rfl) (Q4r E8 E9 l hl wi hw8 sub hM x (hbd.1.mono (by omega)) q (by omega)) ⟨rfl,rfl,rfl,rfl,trivial⟩ ⟨rfl,rfl,rfl,rfl,rfl,rfl,trivial⟩ (kn rfl) trivial rfl (VM.tidy) ?_
  rintro _ _ _ (⟨a,b,z,g,he,rfl,rfl,rfl⟩ | ⟨y,r,ho,rfl,rfl,rfl⟩)
  ·refine AG ?_
   refine A6 ?_
   try refine A0 ?_
   refine A1 (AA rfl rfl rfl rfl rfl (A5 rfl rfl rfl (AP rfl (kn rfl) rfl ifc_28) .nil)) ?_
   try refine A0 ?_
   refine BD ?_
   try refine A0 ?_
   refine A1 (AA rfl rfl rfl rfl rfl (AE rfl rfl rfl rfl rfl .nil)) ?_
   try refine A0 ?_
   exact A7 (mW l wi g z) (pmR g) rfl (.tmp (kn rfl) (.nil)) (Imp.refl _) ⟨s_b,s_b,s_b,s_b,trivial⟩ ⟨rfl,rfl,rfl,rfl,rfl,rfl,trivial⟩ (.inl ⟨a,b,z,g,by rw[hw,he],rfl,rfl,rfl⟩)
  rw[ho]at hw
  dsimp only at hw
  have hv:=FR hst ho
  have hby:QF y r:=by
   have h:=LR hl.len hst hsf hbd ho
   rwa [show q+(r-q)=r by omega]at h
  refine AG ?_
  refine A6 ?_
  try refine A0 ?_
  refine A1 (AA rfl rfl rfl rfl rfl (A5 rfl rfl rfl (AQ rfl (kn rfl) ifc_28) .nil)) ?_
  try refine A0 ?_
  refine C1 ?_
  try refine A0 ?_
  refine A1 (AA rfl rfl rfl rfl rfl (A5 rfl rfl rfl (AN rfl (kn rfl) (kn rfl) (BF (by first | omega | (dsimp only;omega)))) (AE rfl rfl rfl rfl rfl .nil))) ?_
  try refine A0 ?_
  refine BB ⟨(n,y,k+1,r),by omega,by dsimp only;omega,by dsimp only;omega,by dsimp only;omega,hby,hw⟩ (by dsimp only;omega) (fun K=>B8 ⟨s_t,s_t,s_t,s_t,trivial⟩ ⟨s_b,s_b,s_b,s_b,trivial⟩ ⟨rfl,rfl,rfl,rfl,rfl,rfl,trivial⟩)
theorem O2(l:List Tk)(sub:Nat->AZ (Msg×Nat))(hst:Steps l sub):∀ (d n m:Nat) (x:Msg) (c p:Nat),l.length+1-p<=d->p<=l.length->l.length+1<=n+p->l.length+1<=m+p->ET l sub n x p=K0 l 0 (CN l sub) m x c p
 | 0,_,_,_,_,p,hd,hp,_,_=>by omega
 | d+1,0,_,_,_,p,hd,hp,hn,_=>by omega
 | d+1,_,0,_,_,p,hd,hp,_,hm=>by omega
 | d+1,n+1,m+1,x,c,p,hd,hp,hn,hm=>by
  by_cases hs:tkIs l p 4 [59]=true
  ·have hlt:=B7 hs
   have hc:=NC (t:=[125]) hs (by simp) (by simp) (by decide)
   have ih:=O2 l sub hst d (n+1) m x c (p+1) (by omega) (by omega) (by omega) (by omega)
   rw[K0,hc,hs]
   simp only[Bool.not_false,Bool.or_true,Bool.not_true,Bool.false_eq_true,if_false,if_true]
   rw[<- ih]
   rw[ET,ET,MK hs]
  ·have hs':tkIs l p 4 [59]=false:=by simpa using hs
   rw[ET,K0,MA hs',hs']
   by_cases hc:tkIs l p 4 [125]=true
   ·rw[hc]
    simp
   ·have hc':tkIs l p 4 [125]=false:=by simpa using hc
    rw[hc']
    simp only[Bool.not_false,Bool.or_true,Bool.not_true,Bool.false_eq_true,if_false]
    cases hv:CN l sub x p with
    | error e=>rfl
    | ok y=>
     obtain⟨v,q⟩:=y
     have hq:=FR hst hv
     dsimp only
     rcases Nat.eq_zero_or_pos n with h0 | h0
     ·omega
     ·exact O2 l sub hst d n m v (c+1) q (by omega) (by omega) (by omega) (by omega)
theorem DC(l:List Tk)(d p:Nat):BE l (d+1) p=match DF l p with
 | .error e=>.error e
 | .ok (x,q)=>E5 l 0 (CN l (BE l d)) (.mk x.1.t [] [] [] [] [] [] x.2.1 x.2.2) q:=by
 rw[BE]
 cases hx:DF l p with
 | error e=>rfl
 | ok x=>
  obtain⟨x,q⟩:=x
  dsimp only
  unfold E5
  cases hw:BK l 4 [123] q with
  | error e=>rfl
  | ok r=>
   dsimp only
   have hr:=BA hw
   exact O2 l _ (CJ l d) _ (l.length+1) (l.length+1) _ 0 r (Nat.le_refl _) (by omega) (by omega) (by omega)
def FG(f:Fil)(r:AZ (Msg×Nat)):AZ (Fil×Nat):=
 match r with
 | .error e=>.error e
 | .ok (g,q)=>.ok ({ f with msgs:=f.msgs++[g] },q)
abbrev qmX(m:Msg):Bx:=⟨204,[.is (.string (str m.name)),.own 500,.own 501,.own 502,.own 503,.own 504,.own 505,.is (.int .i64 m.line),.is (.int .i64 m.col)]⟩
abbrev qmR(m:Msg):RL:=[(500,⟨210,10,m.fields.length,m.fields.flatMap Fld.dats,false⟩),(501,⟨9,1,m.oneofs.length,m.oneofs.flatMap textDats,false⟩),(502,⟨204,9,m.msgs.length,m.msgs.flatMap Msg.dats,false⟩),(503,⟨200,4,m.enums.length,m.enums.flatMap Enm.dats,false⟩),(504,⟨353,2,m.reserved.length,m.reserved.flatMap rangeDats,false⟩),(505,⟨9,1,m.names.length,m.names.flatMap textDats,false⟩)]
abbrev qS(l:List Tk)(m:Msg)(q:Nat):BL:=[(1,pX l q),(13,qmX m)]
abbrev QM(l:List Tk)(E8 E9:Er)(r:AZ (Msg×Nat))(y:IV)(B1:BL)(R1:RL):Prop:=ME l E8 E9 (qS l) qmR r y B1 R1
set_option maxHeartbeats 2000000 in
theorem UP(E8 E9:Er)(l:List Tk)(hl:PTk l)(d wi:Nat)(hwd:wi+d=8)(hin:∀ d',d=d'+1->OF E8 E9 l wi (BE l d'))(m:Msg)(hm:Small m 9000000000)(p:Nat)(hp:p<=100000):EG Tryz.prog (gE E8 E9) 131 [.box 1 0,.box 13 3,.part (iP (wi:Int))] (qS l m p) (qmR m) (QM l E8 E9 (ID m (BE l d p))):=by
 obtain⟨nm,fs,os,ms,es,rs,ns,ln,cl⟩:=m
 have hm1:(Msg.mk nm fs os ms es rs ns ln cl).msgs.length<=9000000000:=hm.2.2.1
 refine B4 55 Tryz.func131 rfl rfl rfl fun w D bor mb=>?_
 try refine A0 ?_
 have hll:=hl.len
 refine A8 ?_
 refine IQ 4 rfl rfl rfl rfl (kn rfl) rfl rfl rfl rfl rfl ?_
 refine OL 10 rfl rfl rfl rfl (kn rfl) rfl rfl rfl rfl ?_
 refine AG ?_
 refine A6 ?_
 try refine A0 ?_
 refine A8 ?_
 refine AB (A4 rfl (kn rfl) rfl rfl one_183) ?_
 refine AH rfl rfl rfl rfl (by kernel_rfl) (DB E8 E9 l hl.toTksOk (p) 1 (by omega)) ⟨rfl,trivial⟩ trivial ⟨(kn rfl),⟨(kn rfl),trivial⟩⟩ (TY.tidy) ?_
 rintro _ _ _ (⟨hk,rfl,rfl,rfl⟩ | ⟨hk,rfl,rfl,rfl⟩)
 ·refine AJ ?_
  refine B3 ?_
  refine B3 ?_
  refine AS 30 [.is (.int .i64 0),.is (.string ⟨#[]⟩),.is (.int .i64 0),.is (.int .i64 0),.is (.int .i64 0)] rfl rfl rfl rfl zr_128 (fun w D M V=>⟨rfl,fun j x v h1 h2=>AR _ h1 h2 rfl⟩) rfl rfl rfl rfl ?_
  refine AI rfl rfl rfl (kn rfl) rfl (kn rfl) rfl rfl sz_128 ?_
  refine AG ?_
  refine A6 ?_
  try refine A0 ?_
  refine A1 (AA rfl rfl rfl rfl rfl (A5 rfl rfl rfl (AP rfl (kn rfl) rfl ifc_28) .nil)) ?_
  try refine A0 ?_
  refine BD ?_
  try refine A0 ?_
  refine A1 (AA rfl rfl rfl rfl rfl (AE rfl rfl rfl rfl rfl .nil)) ?_
  try refine A0 ?_
  exact A7 (qS l (Msg.mk nm fs os ms es rs ns ln cl) p) (qmR (Msg.mk nm fs os ms es rs ns ln cl)) rfl (.tmp (kn rfl) (.nil)) (Imp.refl _) ⟨s_b,s_b,trivial⟩ ⟨rfl,rfl,rfl,rfl,rfl,rfl,trivial⟩ (.inl ⟨p,9,p,_,by cases d<;>simp only[ID,BE,DC,DY hk],rfl,rfl,rfl⟩)
 refine AJ ?_
 refine B3 ?_
 refine B3 ?_
 refine AS 30 [.is (.int .i64 0),.is (.string ⟨#[]⟩),.is (.int .i64 0),.is (.int .i64 0),.is (.int .i64 0)] rfl rfl rfl rfl zr_128 (fun w D M V=>⟨rfl,fun j x v h1 h2=>AR _ h1 h2 rfl⟩) rfl rfl rfl rfl ?_
 refine AI rfl rfl rfl (kn rfl) rfl (kn rfl) rfl rfl sz_128 ?_
 refine AG ?_
 refine A6 ?_
 try refine A0 ?_
 refine A1 (AA rfl rfl rfl rfl rfl (A5 rfl rfl rfl (AQ rfl (kn rfl) ifc_28) .nil)) ?_
 try refine A0 ?_
 refine C1 ?_
 try refine A0 ?_
 obtain⟨hlt0,hx⟩:=G4 hk
 refine A1 (A5 rfl rfl rfl (A4 rfl (kn rfl) rfl rfl one_3) (A5 rfl rfl rfl (AN rfl (kn rfl) (kn rfl) IJ) .nil)) ?_
 try refine A0 ?_
 refine AO rfl (fun h=>?_) (fun h=>?_)
 ·have h0:=of_decide_eq_true h
  obtain rfl:d=0:=by omega
  try refine A0 ?_
  refine A1 (A5 rfl rfl rfl (AT (ds:=[_,_,_,_,_]) 5 rfl (kn rfl) rfl rfl agg_128 sz_128 rfl) (A5 rfl rfl rfl (C4 rfl (kn rfl) List.mem_cons_self one_28) (A5 rfl rfl rfl (AY rfl (by kernel_rfl) (NV _ l p E8) ⟨(kn rfl),⟨(kn rfl),trivial⟩⟩) (AE rfl rfl rfl rfl rfl .nil)))) ?_
  try refine A0 ?_
  exact A7 (qS l (Msg.mk nm fs os ms es rs ns ln cl) (p+1)) (qmR (Msg.mk nm fs os ms es rs ns ln cl)) rfl (.tmp (kn rfl) (.nil)) (Imp.refl _) ⟨s_b,s_b,trivial⟩ ⟨rfl,rfl,rfl,rfl,rfl,rfl,trivial⟩ (.inl ⟨p,8,p+1,_,by simp only[ID,BE,hx],rfl,rfl,rfl⟩)
 have h0:=of_decide_eq_false h
 obtain⟨d',rfl⟩:∃ d',d=d'+1:=⟨d-1,by omega⟩
 try refine A0 ?_
 refine A8 ?_
 refine AB (A3 rfl (kn rfl) off_128_1) ?_
 refine AB (A4 rfl (kn rfl) rfl rfl one_9) ?_
 refine AB (A3 rfl (kn rfl) off_128_3) ?_
 refine AB (A4 rfl (kn rfl) rfl rfl one_3) ?_
 refine AB (A3 rfl (kn rfl) off_128_4) ?_
 refine AB (A4 rfl (kn rfl) rfl rfl one_3) ?_
 refine AB (B9 (ds:=[_,_,_,_,_,_,_,_,_]) [(0,_),(7,_),(8,_)] rfl ⟨rfl,(kn rfl),⟨rfl,(kn rfl),⟨rfl,(kn rfl),trivial⟩⟩⟩ rfl pl_204 zr_204 (fun w D=>.cons (.cell _) (.cons (.cell _) (.cons (.cell _) (.cons (.cell _) (.cons (.cell _) (.cons (.cell _) (.cons (.cell _) (.cons (.cell _) (.cons (.cell _) (.nil _ _)))))))))) rfl) ?_
 refine AS 3 [.is (.string ⟨#[]⟩),.is (.slice none 0 0),.is (.slice none 0 0),.is (.slice none 0 0),.is (.slice none 0 0),.is (.slice none 0 0),.is (.slice none 0 0),.is (.int .i64 0),.is (.int .i64 0)] rfl rfl rfl rfl zr_204 (fun w D M V=>⟨rfl,fun j x v h1 h2=>AR _ h1 h2 rfl⟩) rfl rfl rfl rfl ?_
 refine AI rfl rfl rfl (kn rfl) rfl (kn rfl) rfl rfl sz_204 ?_
 refine A6 ?_
 try refine A0 ?_
 refine BI 3 1 100 210 10 rfl rfl rfl rfl rfl ?_
 refine BI 3 2 101 9 1 rfl rfl rfl rfl rfl ?_
 refine BI 3 3 102 204 9 rfl rfl rfl rfl rfl ?_
 refine BI 3 4 103 200 4 rfl rfl rfl rfl rfl ?_
 refine BI 3 5 104 353 2 rfl rfl rfl rfl rfl ?_
 refine BI 3 6 105 9 1 rfl rfl rfl rfl rfl ?_
 refine A8 ?_
 refine AB (A4 rfl (kn rfl) rfl rfl one_183) ?_
 refine AB (HM (fs:=[]) (cs:=[.box 4 0,.box 3 0,.box 10 0]) rfl trivial ⟨(kn rfl),(kn rfl),(kn rfl),trivial⟩) ?_
 refine AH rfl rfl rfl rfl (by kernel_rfl) (Q7D E8 E9 l hl wi (by omega) (BE l d') (hin d' rfl) (CJ l d') (G3 hl.len d') (.mk (tkAt l p).1.t [] [] [] [] [] [] (tkAt l p).2.1 (tkAt l p).2.2) (p+1) (by omega) (fun q _=>⟨⟨Nat.zero_le q,Nat.zero_le q,Nat.zero_le q,Nat.zero_le q,Nat.zero_le q,Nat.zero_le q⟩,fun x h=>(by cases h),fun x h=>(by cases h)⟩)) ⟨rfl,rfl,rfl,rfl,trivial⟩ ⟨rfl,rfl,rfl,rfl,rfl,rfl,trivial⟩ ⟨(kn rfl),⟨(kn rfl),⟨(kn rfl),trivial⟩⟩⟩ (VM.tidy) ?_
 rintro _ _ _ (⟨a,b,z,g,he,rfl,rfl,rfl⟩ | ⟨g,z,ho,rfl,rfl,rfl⟩)
 ·refine AG ?_
  refine A6 ?_
  try refine A0 ?_
  refine A1 (AA rfl rfl rfl rfl rfl (A5 rfl rfl rfl (AP rfl (kn rfl) rfl ifc_28) .nil)) ?_
  try refine A0 ?_
  refine BD ?_
  try refine A0 ?_
  refine A1 (AA rfl rfl rfl rfl rfl (AE rfl rfl rfl rfl rfl .nil)) ?_
  try refine A0 ?_
  exact A7 (qS l (Msg.mk nm fs os ms es rs ns ln cl) z) (qmR (Msg.mk nm fs os ms es rs ns ln cl)) rfl (.tmp (kn rfl) (.nil)) (Imp.refl _) ⟨s_b,s_b,trivial⟩ ⟨rfl,rfl,rfl,rfl,rfl,rfl,trivial⟩ (.inl ⟨a,b,z,_,by simp only[ID,DC,hx,he],rfl,rfl,rfl⟩)
 refine AG ?_
 refine A6 ?_
 try refine A0 ?_
 refine A1 (AA rfl rfl rfl rfl rfl (A5 rfl rfl rfl (AQ rfl (kn rfl) ifc_28) .nil)) ?_
 try refine A0 ?_
 refine C1 ?_
 try refine A0 ?_
 refine BC 3 1 100 rfl rfl rfl rfl rfl ?_
 refine BC 3 2 101 rfl rfl rfl rfl rfl ?_
 refine BC 3 3 102 rfl rfl rfl rfl rfl ?_
 refine BC 3 4 103 rfl rfl rfl rfl rfl ?_
 refine BC 3 5 104 rfl rfl rfl rfl rfl ?_
 refine BC 3 6 105 rfl rfl rfl rfl rfl ?_
 refine Q43 31 mixed (by kernel_rfl) (fun _ h=>h) rfl rfl rfl rfl zr_4 rfl rfl rfl rfl rfl rfl rfl rfl rfl rfl sz_4 one_4 rfl rfl rfl (fun _ y=>?_)
 try refine A0 ?_
 refine AO rfl (fun h=>?_) (fun h=>?_)
 ·try refine A0 ?_
  refine A8 ?_
  refine AJ ?_
  refine AB (AL rfl (kn rfl)) ?_
  refine AB (A4 rfl (kn rfl) rfl rfl one_39) ?_
  refine AB (GX rfl (kn rfl) rfl sle_39) ?_
  refine AB (AC (ds:=[_,_,_,_,_,_,_,_,_]) [(0,_)] rfl ⟨rfl,(Q1E _),trivial⟩ rfl sl_39 sz_204 zr_204 (fun w D=>.cons (.cell _) (.cons (.cell _) (.cons (.cell _) (.cons (.cell _) (.cons (.cell _) (.cons (.cell _) (.cons (.cell _) (.cons (.cell _) (.cons (.cell _) (.nil _ _)))))))))) rfl rfl rfl rfl rfl) ?_
  refine BV rfl rfl rfl rfl (kn rfl) rfl (kn rfl) sl_39 ap_39 rfl rfl (by first | omega | (dsimp only;omega)) (by first | omega | (dsimp only;omega)) ?_
  refine AB (AL rfl (kn rfl)) ?_
  refine B6 rfl rfl rfl (kn rfl) rfl (kn rfl) rfl rfl sz_39 rfl ?_
  refine A6 ?_
  try refine A0 ?_
  refine A8 ?_
  refine AB (AT (ds:=[_,_,_,_,_,_,_,_,_]) 9 rfl (kn rfl) rfl rfl agg_204 sz_204 rfl) ?_
  refine MS rfl rfl rfl rfl (kn rfl) rfl rfl (kn rfl) sle_39 esz_39 rfl rfl rfl (kn rfl) rfl rfl sz_204 ?_
  refine A6 ?_
  try refine A0 ?_
  refine A1 (AE rfl rfl rfl rfl rfl .nil) ?_
  try refine A0 ?_
  exact A7 (qS l ((Msg.mk nm fs os ms es rs ns ln cl).addMsg g) z) (qmR ((Msg.mk nm fs os ms es rs ns ln cl).addMsg g)) rfl (.tmp (kn rfl) (.nil)) (Imp.refl _) ⟨s_b,s_b,trivial⟩ ⟨rfl,rfl,E4 rfl (by simp[Msg.addMsg,Msg.msgs]) (by simp[Msg.addMsg,Msg.msgs,List.flatMap_append,KX g];rfl),rfl,rfl,rfl,trivial⟩ (.inr ⟨_,z,by simp only[ID,DC,hx,ho],rfl,rfl,rfl⟩)
 try refine A0 ?_
 refine CD 6 mixed (by kernel_rfl) rfl rfl rfl rfl (kn rfl) (fun _ _ _ _ h=>h) (AA rfl rfl rfl rfl rfl (A5 rfl rfl rfl (AL rfl (kn rfl)) (A5 rfl rfl rfl (A4 rfl (kn rfl) rfl rfl one_39) (A5 rfl rfl rfl (AT (ds:=[_,_,_,_,_,_,_,_,_]) 9 rfl (kn rfl) rfl rfl agg_204 sz_204 rfl) (A5 rfl rfl rfl (AC (ds:=[_,_,_,_,_,_,_,_,_]) [(0,_)] rfl ⟨rfl,(kn rfl),trivial⟩ rfl sl_39 sz_204 zr_204 (fun w D=>.cons (.cell _) (.cons (.cell _) (.cons (.cell _) (.cons (.cell _) (.cons (.cell _) (.cons (.cell _) (.cons (.cell _) (.cons (.cell _) (.cons (.cell _) (.nil _ _)))))))))) rfl rfl rfl rfl rfl) .nil))))) ?_
 refine BV rfl rfl rfl rfl (kn rfl) rfl (kn rfl) sl_39 ap_39 rfl rfl (by first | omega | (dsimp only;omega)) (by first | omega | (dsimp only;omega)) ?_
 refine AB (AL rfl (kn rfl)) ?_
 refine B6 rfl rfl rfl (kn rfl) rfl (kn rfl) rfl rfl sz_39 rfl ?_
 refine A6 ?_
 try refine A0 ?_
 refine A1 (AE rfl rfl rfl rfl rfl .nil) ?_
 try refine A0 ?_
 exact A7 (qS l ((Msg.mk nm fs os ms es rs ns ln cl).addMsg g) z) (qmR ((Msg.mk nm fs os ms es rs ns ln cl).addMsg g)) rfl (.tmp (kn rfl) (.nil)) (Imp.refl _) ⟨s_b,s_b,trivial⟩ ⟨rfl,rfl,E4 rfl (by simp[Msg.addMsg,Msg.msgs]) (by simp[Msg.addMsg,Msg.msgs,List.flatMap_append,KX g];rfl),rfl,rfl,rfl,trivial⟩ (.inr ⟨_,z,by simp only[ID,DC,hx,ho],rfl,rfl,rfl⟩)
def ρq(b:Nat):Nat:=bif Nat.beq b 13 then 3 else b
def σq(r:Nat):Nat:=bif Nat.ble 500 r then r-400 else r
theorem apρ:Apart ρq [1,13]:=show ∀ a∈[1,13],∀ b∈[1,13],ρq a=ρq b->a=b by decide
theorem apσ:Apart σq [500,501,502,503,504,505]:=show ∀ a∈[500,501,502,503,504,505],∀ b∈[500,501,502,503,504,505],σq a=σq b->a=b by decide
theorem QM.tidy{l:List Tk}{E8 E9:Er}{r:AZ (Msg×Nat)}{m:Msg}{q:Nat}(y:IV)(B1:BL)(R1:RL)(h:QM l E8 E9 r y B1 R1):H0 (qS l m q) (qmR m) y B1 R1:=by
 rcases h with⟨a,b,z,x,_,rfl,rfl,rfl⟩ | ⟨x,z,_,rfl,rfl,rfl⟩<;>exact⟨rfl,rfl,rfl,rfl⟩
theorem Q0z(E8 E9:Er)(l:List Tk)(hl:PTk l):∀ d wi,wi+1+d=8->OF E8 E9 l wi (BE l d):=by
 intro d
 induction d with
 | zero=>
  intro wi hwi m p hm hp
  have h:=UP E8 E9 l hl 0 (wi+1) hwi (fun d' hd=>by omega) m hm p hp
  rw[show(((wi+1:Nat)):Int)=(wi:Int)+1 by omega]at h
  refine Q3F ρq σq h rfl ⟨rfl,rfl,trivial⟩ ⟨rfl,rfl,rfl,rfl,rfl,rfl,trivial⟩ apρ apσ QM.tidy fun y B1 R1 hy=>?_
  rcases hy with⟨a,b,z,x,he,rfl,rfl,rfl⟩ | ⟨x,z,ho,rfl,rfl,rfl⟩
  ·exact⟨_,mS l x z,pmR x,.inl ⟨a,b,z,x,he,rfl,rfl,rfl⟩,Imp.refl _,⟨s_b,s_b,trivial⟩,⟨rfl,rfl,rfl,rfl,rfl,rfl,trivial⟩⟩
  ·exact⟨_,mS l x z,pmR x,.inr ⟨x,z,ho,rfl,rfl,rfl⟩,Imp.refl _,⟨s_b,s_b,trivial⟩,⟨rfl,rfl,rfl,rfl,rfl,rfl,trivial⟩⟩
 | succ d ih=>
  intro wi hwi m p hm hp
  have h:=UP E8 E9 l hl (d+1) (wi+1) hwi (fun d' hd=>by
   obtain rfl:d'=d:=by omega
   exact ih (wi+1) (by omega)) m hm p hp
  rw[show(((wi+1:Nat)):Int)=(wi:Int)+1 by omega]at h
  refine Q3F ρq σq h rfl ⟨rfl,rfl,trivial⟩ ⟨rfl,rfl,rfl,rfl,rfl,rfl,trivial⟩ apρ apσ QM.tidy fun y B1 R1 hy=>?_
  rcases hy with⟨a,b,z,x,he,rfl,rfl,rfl⟩ | ⟨x,z,ho,rfl,rfl,rfl⟩
  ·exact⟨_,mS l x z,pmR x,.inl ⟨a,b,z,x,he,rfl,rfl,rfl⟩,Imp.refl _,⟨s_b,s_b,trivial⟩,⟨rfl,rfl,rfl,rfl,rfl,rfl,trivial⟩⟩
  ·exact⟨_,mS l x z,pmR x,.inr ⟨x,z,ho,rfl,rfl,rfl⟩,Imp.refl _,⟨s_b,s_b,trivial⟩,⟨rfl,rfl,rfl,rfl,rfl,rfl,trivial⟩⟩
set_option maxHeartbeats 2000000 in
theorem Q16(E8 E9:Er)(l:List Tk)(hl:PTk l)(f:Fil)(hf:f.msgs.length<=100000000000)(p:Nat)(hp:p<=100000):EG Tryz.prog (gE E8 E9) 131 [.box 1 0,.box 7 1,.part (iP 0)] (flB l f p) (flR f) (LE l E8 E9 (FG f (BE l 8 p))):=by
 obtain⟨d,hd⟩:∃ d,d=8:=⟨_,rfl⟩
 obtain⟨wi,hwi⟩:∃ wi,wi=0:=⟨_,rfl⟩
 have hwd:wi+d=8:=by omega
 rw[<- hd,show(0:Int)=(wi:Int) by omega]
 have hin:∀ d',d=d'+1->OF E8 E9 l wi (BE l d'):=fun d' h=>Q0z E8 E9 l hl d' wi (by omega)
 refine B4 55 Tryz.func131 rfl rfl rfl fun w D bor mb=>?_
 try refine A0 ?_
 have hll:=hl.len
 refine A8 ?_
 refine IQ 4 rfl rfl rfl rfl (kn rfl) rfl rfl rfl rfl rfl ?_
 refine OL 10 rfl rfl rfl rfl (kn rfl) rfl rfl rfl rfl ?_
 refine AG ?_
 refine A6 ?_
 try refine A0 ?_
 refine A8 ?_
 refine AB (A4 rfl (kn rfl) rfl rfl one_183) ?_
 refine AH rfl rfl rfl rfl (by kernel_rfl) (DB E8 E9 l hl.toTksOk (p) 1 (by omega)) ⟨rfl,trivial⟩ trivial ⟨(kn rfl),⟨(kn rfl),trivial⟩⟩ (TY.tidy) ?_
 rintro _ _ _ (⟨hk,rfl,rfl,rfl⟩ | ⟨hk,rfl,rfl,rfl⟩)
 ·refine AJ ?_
  refine B3 ?_
  refine B3 ?_
  refine AS 30 [.is (.int .i64 0),.is (.string ⟨#[]⟩),.is (.int .i64 0),.is (.int .i64 0),.is (.int .i64 0)] rfl rfl rfl rfl zr_128 (fun w D M V=>⟨rfl,fun j x v h1 h2=>AR _ h1 h2 rfl⟩) rfl rfl rfl rfl ?_
  refine AI rfl rfl rfl (kn rfl) rfl (kn rfl) rfl rfl sz_128 ?_
  refine AG ?_
  refine A6 ?_
  try refine A0 ?_
  refine A1 (AA rfl rfl rfl rfl rfl (A5 rfl rfl rfl (AP rfl (kn rfl) rfl ifc_28) .nil)) ?_
  try refine A0 ?_
  refine BD ?_
  try refine A0 ?_
  refine A1 (AA rfl rfl rfl rfl rfl (AE rfl rfl rfl rfl rfl .nil)) ?_
  try refine A0 ?_
  exact A7 (flB l f p) (flR f) rfl (.tmp (kn rfl) (.nil)) (Imp.refl _) ⟨s_b,s_b,trivial⟩ ⟨rfl,rfl,trivial⟩ (.inl ⟨p,9,p,_,by cases d<;>simp only[FG,BE,DC,DY hk],rfl,rfl,rfl⟩)
 refine AJ ?_
 refine B3 ?_
 refine B3 ?_
 refine AS 30 [.is (.int .i64 0),.is (.string ⟨#[]⟩),.is (.int .i64 0),.is (.int .i64 0),.is (.int .i64 0)] rfl rfl rfl rfl zr_128 (fun w D M V=>⟨rfl,fun j x v h1 h2=>AR _ h1 h2 rfl⟩) rfl rfl rfl rfl ?_
 refine AI rfl rfl rfl (kn rfl) rfl (kn rfl) rfl rfl sz_128 ?_
 refine AG ?_
 refine A6 ?_
 try refine A0 ?_
 refine A1 (AA rfl rfl rfl rfl rfl (A5 rfl rfl rfl (AQ rfl (kn rfl) ifc_28) .nil)) ?_
 try refine A0 ?_
 refine C1 ?_
 try refine A0 ?_
 obtain⟨hlt0,hx⟩:=G4 hk
 refine A1 (A5 rfl rfl rfl (A4 rfl (kn rfl) rfl rfl one_3) (A5 rfl rfl rfl (AN rfl (kn rfl) (kn rfl) IJ) .nil)) ?_
 try refine A0 ?_
 refine AO rfl (fun h=>?_) (fun h=>?_)
 ·have h0:=of_decide_eq_true h
  obtain rfl:d=0:=by omega
  try refine A0 ?_
  refine A1 (A5 rfl rfl rfl (AT (ds:=[_,_,_,_,_]) 5 rfl (kn rfl) rfl rfl agg_128 sz_128 rfl) (A5 rfl rfl rfl (C4 rfl (kn rfl) List.mem_cons_self one_28) (A5 rfl rfl rfl (AY rfl (by kernel_rfl) (NV _ l p E8) ⟨(kn rfl),⟨(kn rfl),trivial⟩⟩) (AE rfl rfl rfl rfl rfl .nil)))) ?_
  try refine A0 ?_
  exact A7 (flB l f (p+1)) (flR f) rfl (.tmp (kn rfl) (.nil)) (Imp.refl _) ⟨s_b,s_b,trivial⟩ ⟨rfl,rfl,trivial⟩ (.inl ⟨p,8,p+1,_,by simp only[FG,BE,hx],rfl,rfl,rfl⟩)
 have h0:=of_decide_eq_false h
 obtain⟨d',rfl⟩:∃ d',d=d'+1:=⟨d-1,by omega⟩
 try refine A0 ?_
 refine A8 ?_
 refine AB (A3 rfl (kn rfl) off_128_1) ?_
 refine AB (A4 rfl (kn rfl) rfl rfl one_9) ?_
 refine AB (A3 rfl (kn rfl) off_128_3) ?_
 refine AB (A4 rfl (kn rfl) rfl rfl one_3) ?_
 refine AB (A3 rfl (kn rfl) off_128_4) ?_
 refine AB (A4 rfl (kn rfl) rfl rfl one_3) ?_
 refine AB (B9 (ds:=[_,_,_,_,_,_,_,_,_]) [(0,_),(7,_),(8,_)] rfl ⟨rfl,(kn rfl),⟨rfl,(kn rfl),⟨rfl,(kn rfl),trivial⟩⟩⟩ rfl pl_204 zr_204 (fun w D=>.cons (.cell _) (.cons (.cell _) (.cons (.cell _) (.cons (.cell _) (.cons (.cell _) (.cons (.cell _) (.cons (.cell _) (.cons (.cell _) (.cons (.cell _) (.nil _ _)))))))))) rfl) ?_
 refine AS 3 [.is (.string ⟨#[]⟩),.is (.slice none 0 0),.is (.slice none 0 0),.is (.slice none 0 0),.is (.slice none 0 0),.is (.slice none 0 0),.is (.slice none 0 0),.is (.int .i64 0),.is (.int .i64 0)] rfl rfl rfl rfl zr_204 (fun w D M V=>⟨rfl,fun j x v h1 h2=>AR _ h1 h2 rfl⟩) rfl rfl rfl rfl ?_
 refine AI rfl rfl rfl (kn rfl) rfl (kn rfl) rfl rfl sz_204 ?_
 refine A6 ?_
 try refine A0 ?_
 refine BI 3 1 100 210 10 rfl rfl rfl rfl rfl ?_
 refine BI 3 2 101 9 1 rfl rfl rfl rfl rfl ?_
 refine BI 3 3 102 204 9 rfl rfl rfl rfl rfl ?_
 refine BI 3 4 103 200 4 rfl rfl rfl rfl rfl ?_
 refine BI 3 5 104 353 2 rfl rfl rfl rfl rfl ?_
 refine BI 3 6 105 9 1 rfl rfl rfl rfl rfl ?_
 refine A8 ?_
 refine AB (A4 rfl (kn rfl) rfl rfl one_183) ?_
 refine AB (HM (fs:=[]) (cs:=[.box 4 0,.box 3 0,.box 10 0]) rfl trivial ⟨(kn rfl),(kn rfl),(kn rfl),trivial⟩) ?_
 refine AH rfl rfl rfl rfl (by kernel_rfl) (Q7D E8 E9 l hl wi (by omega) (BE l d') (hin d' rfl) (CJ l d') (G3 hl.len d') (.mk (tkAt l p).1.t [] [] [] [] [] [] (tkAt l p).2.1 (tkAt l p).2.2) (p+1) (by omega) (fun q _=>⟨⟨Nat.zero_le q,Nat.zero_le q,Nat.zero_le q,Nat.zero_le q,Nat.zero_le q,Nat.zero_le q⟩,fun x h=>(by cases h),fun x h=>(by cases h)⟩)) ⟨rfl,rfl,rfl,rfl,trivial⟩ ⟨rfl,rfl,rfl,rfl,rfl,rfl,trivial⟩ ⟨(kn rfl),⟨(kn rfl),⟨(kn rfl),trivial⟩⟩⟩ (VM.tidy) ?_
 rintro _ _ _ (⟨a,b,z,g,he,rfl,rfl,rfl⟩ | ⟨g,z,ho,rfl,rfl,rfl⟩)
 ·refine AG ?_
  refine A6 ?_
  try refine A0 ?_
  refine A1 (AA rfl rfl rfl rfl rfl (A5 rfl rfl rfl (AP rfl (kn rfl) rfl ifc_28) .nil)) ?_
  try refine A0 ?_
  refine BD ?_
  try refine A0 ?_
  refine A1 (AA rfl rfl rfl rfl rfl (AE rfl rfl rfl rfl rfl .nil)) ?_
  try refine A0 ?_
  exact A7 (flB l f z) (flR f) rfl (.tmp (kn rfl) (.nil)) (Imp.refl _) ⟨s_b,s_b,trivial⟩ ⟨rfl,rfl,trivial⟩ (.inl ⟨a,b,z,_,by simp only[FG,DC,hx,he],rfl,rfl,rfl⟩)
 refine AG ?_
 refine A6 ?_
 try refine A0 ?_
 refine A1 (AA rfl rfl rfl rfl rfl (A5 rfl rfl rfl (AQ rfl (kn rfl) ifc_28) .nil)) ?_
 try refine A0 ?_
 refine C1 ?_
 try refine A0 ?_
 refine BC 3 1 100 rfl rfl rfl rfl rfl ?_
 refine BC 3 2 101 rfl rfl rfl rfl rfl ?_
 refine BC 3 3 102 rfl rfl rfl rfl rfl ?_
 refine BC 3 4 103 rfl rfl rfl rfl rfl ?_
 refine BC 3 5 104 rfl rfl rfl rfl rfl ?_
 refine BC 3 6 105 rfl rfl rfl rfl rfl ?_
 refine Q43 31 mixed (by kernel_rfl) (fun _ h=>h) rfl rfl rfl rfl zr_4 rfl rfl rfl rfl rfl rfl rfl rfl rfl rfl sz_4 one_4 rfl rfl rfl (fun _ y=>?_)
 try refine A0 ?_
 refine AO rfl (fun h=>?_) (fun h=>?_)
 ·try refine A0 ?_
  refine A8 ?_
  refine AJ ?_
  refine AB (AL rfl (kn rfl)) ?_
  refine AB (A4 rfl (kn rfl) rfl rfl one_39) ?_
  refine AB (GX rfl (kn rfl) rfl sle_39) ?_
  refine AB (AC (ds:=[_,_,_,_,_,_,_,_,_]) [(0,_)] rfl ⟨rfl,(Q1E _),trivial⟩ rfl sl_39 sz_204 zr_204 (fun w D=>.cons (.cell _) (.cons (.cell _) (.cons (.cell _) (.cons (.cell _) (.cons (.cell _) (.cons (.cell _) (.cons (.cell _) (.cons (.cell _) (.cons (.cell _) (.nil _ _)))))))))) rfl rfl rfl rfl rfl) ?_
  refine BV rfl rfl rfl rfl (kn rfl) rfl (kn rfl) sl_39 ap_39 rfl rfl (by first | omega | (dsimp only;omega)) (by first | omega | (dsimp only;omega)) ?_
  refine AB (AL rfl (kn rfl)) ?_
  refine B6 rfl rfl rfl (kn rfl) rfl (kn rfl) rfl rfl sz_39 rfl ?_
  refine A6 ?_
  try refine A0 ?_
  refine A8 ?_
  refine AB (AT (ds:=[_,_,_,_,_,_,_,_,_]) 9 rfl (kn rfl) rfl rfl agg_204 sz_204 rfl) ?_
  refine MS rfl rfl rfl rfl (kn rfl) rfl rfl (kn rfl) sle_39 esz_39 rfl rfl rfl (kn rfl) rfl rfl sz_204 ?_
  refine A6 ?_
  try refine A0 ?_
  refine A1 (AE rfl rfl rfl rfl rfl .nil) ?_
  try refine A0 ?_
  exact A7 (flB l { f with msgs:=f.msgs++[g] } z) (flR { f with msgs:=f.msgs++[g] }) rfl (.tmp (kn rfl) (.nil)) (Imp.refl _) ⟨s_b,s_b,trivial⟩ ⟨E4 rfl (by simp) (by simp[List.flatMap_append,KX g];rfl),rfl,trivial⟩ (.inr ⟨_,z,by simp only[FG,DC,hx,ho],rfl,rfl,rfl⟩)
 try refine A0 ?_
 refine CD 6 mixed (by kernel_rfl) rfl rfl rfl rfl (kn rfl) (fun _ _ _ _ h=>h) (AA rfl rfl rfl rfl rfl (A5 rfl rfl rfl (AL rfl (kn rfl)) (A5 rfl rfl rfl (A4 rfl (kn rfl) rfl rfl one_39) (A5 rfl rfl rfl (AT (ds:=[_,_,_,_,_,_,_,_,_]) 9 rfl (kn rfl) rfl rfl agg_204 sz_204 rfl) (A5 rfl rfl rfl (AC (ds:=[_,_,_,_,_,_,_,_,_]) [(0,_)] rfl ⟨rfl,(kn rfl),trivial⟩ rfl sl_39 sz_204 zr_204 (fun w D=>.cons (.cell _) (.cons (.cell _) (.cons (.cell _) (.cons (.cell _) (.cons (.cell _) (.cons (.cell _) (.cons (.cell _) (.cons (.cell _) (.cons (.cell _) (.nil _ _)))))))))) rfl rfl rfl rfl rfl) .nil))))) ?_
 refine BV rfl rfl rfl rfl (kn rfl) rfl (kn rfl) sl_39 ap_39 rfl rfl (by first | omega | (dsimp only;omega)) (by first | omega | (dsimp only;omega)) ?_
 refine AB (AL rfl (kn rfl)) ?_
 refine B6 rfl rfl rfl (kn rfl) rfl (kn rfl) rfl rfl sz_39 rfl ?_
 refine A6 ?_
 try refine A0 ?_
 refine A1 (AE rfl rfl rfl rfl rfl .nil) ?_
 try refine A0 ?_
 exact A7 (flB l { f with msgs:=f.msgs++[g] } z) (flR { f with msgs:=f.msgs++[g] }) rfl (.tmp (kn rfl) (.nil)) (Imp.refl _) ⟨s_b,s_b,trivial⟩ ⟨E4 rfl (by simp) (by simp[List.flatMap_append,KX g];rfl),rfl,trivial⟩ (.inr ⟨_,z,by simp only[FG,DC,hx,ho],rfl,rfl,rfl⟩)
end Go.Proofs.YtgcphgdkddihcaaGreatDoor
