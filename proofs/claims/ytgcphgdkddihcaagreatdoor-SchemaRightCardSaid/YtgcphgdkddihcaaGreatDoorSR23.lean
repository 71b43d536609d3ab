/- Part 23. Conditions: as each theorem says. -/
import Derived.Test.YtgcphgdkddihcaaGreatDoorSR22
import Derived.Test.YtgcphgdkddihcaaGreatDoorProg
set_option maxRecDepth 100000
namespace Go.Proofs.YtgcphgdkddihcaaGreatDoor
open Go.RowKit
def QE{α:Type}(l:List Tk)(E8 E9:Er)(C:α->Prop)(P:α->Part)(r:AZ (α×Nat))(y:IV)(B1:BL)(R1:RL):Prop:=
 (∃ a b z x,C x/\r=.error (a,b)/\y=.tup [P x,YK l a (erv E8 E9 b)]/\B1=pB l z/\R1=[])\/(∃ x z,r=.ok (x,z)/\y=.tup [P x,IS]/\B1=pB l z/\R1=[])
theorem QE.tidy{α:Type}{l:List Tk}{E8 E9:Er}{C:α->Prop}{P:α->Part}{r:AZ (α×Nat)}{q:Nat}(y:IV)(B1:BL)(R1:RL)(h:QE l E8 E9 C P r y B1 R1):H0 (pB l q) [] y B1 R1:=by
 rcases h with⟨a,b,z,x,_,_,rfl,rfl,rfl⟩ | ⟨x,z,_,rfl,rfl,rfl⟩<;>exact⟨rfl,rfl,rfl,rfl⟩
theorem M6{l:List Tk}{q k:Nat}(h:(tkAt l q).1.k=k)(hk:k≠0):q<l.length:=by
 rcases Nat.lt_or_ge q l.length with h1 | h1
 ·exact h1
 ·refine absurd ?_ hk
  rw[<- h]
  unfold tkAt
  rw[List.getD_eq_getElem?_getD,List.getElem?_eq_none h1]
  rfl
theorem G4{l:List Tk}{q:Nat}(h:(tkAt l q).1.k=1):q<l.length/\DF l q=.ok (tkAt l q,q+1):=by
 have hlt:=M6 h (by decide)
 refine⟨hlt,?_⟩
 unfold DF
 rw[IN hlt]
 exact if_pos h
theorem DY{l:List Tk}{q:Nat}(h:(tkAt l q).1.k≠1):DF l q=.error (q,9):=by
 unfold DF
 cases hx:l[q]? with
 | none=>rfl
 | some x=>
  rw[PT hx]at h
  exact if_neg h
theorem J2{l:List Tk}{q:Nat}(h:(tkAt l q).1.k=2):q<l.length/\D9 l q=.ok (((tkAt l q).1.n:Int),q+1):=by
 have hlt:=M6 h (by decide)
 refine⟨hlt,?_⟩
 unfold D9
 rw[IN hlt]
 exact if_pos h
theorem GZ{l:List Tk}{q:Nat}(h:(tkAt l q).1.k≠2):D9 l q=.error (q,9):=by
 unfold D9
 cases hx:l[q]? with
 | none=>rfl
 | some x=>
  rw[PT hx]at h
  exact if_neg h
theorem Q1u{l:List Tk}{q:Nat}(h:(tkAt l q).1.k=3):q<l.length/\I1 l q=.ok ((tkAt l q).1.t,q+1):=by
 have hlt:=M6 h (by decide)
 refine⟨hlt,?_⟩
 unfold I1
 rw[IN hlt]
 exact if_pos h
theorem XA{l:List Tk}{q:Nat}(h:(tkAt l q).1.k≠3):I1 l q=.error (q,9):=by
 unfold I1
 cases hx:l[q]? with
 | none=>rfl
 | some x=>
  rw[PT hx]at h
  exact if_neg h
set_option maxHeartbeats 1000000 in
theorem Q1i(E8 E9:Er)(l:List Tk)(hl:PTk l)(p:Nat)(hp:p<=100000):EG Tryz.prog (gE E8 E9) 77 [.box 1 0] (pB l p) [] (QE l E8 E9 (· = []) sP (E3 l (l.length+1) [] p)):=by
 refine B4 24 Tryz.func77 rfl rfl rfl fun w D bor mb=>?_
 try refine A0 ?_
 have hll:=hl.len
 obtain⟨rr,hrr⟩:∃ rr,rr=E3 l (l.length+1) [] p:=⟨_,rfl⟩
 rw[<- hrr]
 refine A1 (AE rfl rfl rfl rfl rfl (AE rfl rfl rfl rfl rfl .nil)) ?_
 try refine A0 ?_
 refine A8 ?_
 refine AS 2 [.is (.pointer none),.is (.slice none 0 0)] rfl rfl rfl rfl zr_264 (fun w D M V=>⟨rfl,fun j x v h1 h2=>AR _ h1 h2 rfl⟩) rfl rfl rfl rfl ?_
 refine A6 ?_
 try refine A0 ?_
 refine BI 2 1 200 5 1 rfl rfl rfl rfl rfl ?_
 refine CB (ι:={ i:Nat×List UInt8×Nat×IV // 1<=i.1/\l.length+1<=i.1+i.2.2.1/\i.2.2.1<=100001/\i.2.1.length<=100001*i.2.2.1+1/\(i.2.2.2=.is (.pointer none)\/i.2.2.2=.box 2 0)/\rr=E3 l i.1 i.2.1 i.2.2.1 })
  (fun _=>[(0,.box 1 0),(4,.box 2 0)])
  (fun i=>[(1,pX l i.1.2.2.1),(2,⟨264,[i.1.2.2.2,.own 200]⟩)])
  (fun i=>bR i.1.2.1)
  (fun i=>i.1.1) ⟨(l.length+1,[],p,.is (.pointer none)),by omega,by dsimp only;omega,by dsimp only;omega,by simp,.inl rfl,hrr⟩
  (fun K=>B8 ⟨s_t,s_t,trivial⟩ ⟨s_b,s_b,trivial⟩ ⟨rfl,trivial⟩) ?_
 rintro⟨⟨n,s,q,c0⟩,hn1,hn,hq,hs,hc0,hw⟩
 dsimp only at hn1 hn hq hs hc0 hw ⊢
 obtain⟨m,rfl⟩:∃ m,n=m+1:=⟨n-1,by omega⟩
 rcases hc0 with rfl | rfl
 all_goals
  rw[E3]at hw
  try refine A0 ?_
  refine A8 ?_
  refine AJ ?_
  refine AH rfl rfl rfl rfl (by kernel_rfl) (DB E8 E9 l hl.toTksOk q 1 (by omega)) ⟨rfl,trivial⟩ trivial ⟨(kn rfl),⟨(kn rfl),trivial⟩⟩ (TY.tidy) ?_
  rintro _ _ _ (⟨hk,rfl,rfl,rfl⟩ | ⟨hk,rfl,rfl,rfl⟩)
  ·rw[DY hk]at hw
   refine AJ ?_
   refine B3 ?_
   refine B3 ?_
   refine AS 5 [.is (.int .i64 0),.is (.string ⟨#[]⟩),.is (.int .i64 0),.is (.int .i64 0),.is (.int .i64 0)] rfl rfl rfl rfl zr_128 (fun w D M V=>⟨rfl,fun j x v h1 h2=>AR _ h1 h2 rfl⟩) rfl rfl rfl rfl ?_
   refine AI rfl rfl rfl (kn rfl) rfl (kn rfl) rfl rfl sz_128 ?_
   refine AG ?_
   refine A6 ?_
   try refine A0 ?_
   refine A1 (AA rfl rfl rfl rfl rfl (A5 rfl rfl rfl (AP rfl (kn rfl) rfl ifc_28) .nil)) ?_
   try refine A0 ?_
   refine BD ?_
   try refine A0 ?_
   refine A1 (AA rfl rfl rfl rfl rfl (AE rfl rfl rfl rfl rfl (AE rfl rfl rfl rfl rfl .nil))) ?_
   try refine A0 ?_
   exact A7 (pB l q) ([]) rfl (.tmp (kn rfl) (.tmp (kn rfl) (.nil))) (Imp.refl _) ⟨s_b,trivial⟩ trivial (.inl ⟨q,9,q,[],rfl,hw,rfl,rfl,rfl⟩)
  obtain⟨hlt,ho⟩:=G4 hk
  have hx3:=hl.txt q
  have hne:=hl.ne q hk
  rw[ho]at hw
  dsimp only at hw
  refine AJ ?_
  refine B3 ?_
  refine B3 ?_
  refine AS 5 [.is (.int .i64 0),.is (.string ⟨#[]⟩),.is (.int .i64 0),.is (.int .i64 0),.is (.int .i64 0)] rfl rfl rfl rfl zr_128 (fun w D M V=>⟨rfl,fun j x v h1 h2=>AR _ h1 h2 rfl⟩) rfl rfl rfl rfl ?_
  refine AI rfl rfl rfl (kn rfl) rfl (kn rfl) rfl rfl sz_128 ?_
  refine AG ?_
  refine A6 ?_
  try refine A0 ?_
  refine A1 (AA rfl rfl rfl rfl rfl (A5 rfl rfl rfl (AQ rfl (kn rfl) ifc_28) .nil)) ?_
  try refine A0 ?_
  refine C1 ?_
  try refine A0 ?_
  refine A8 ?_
  refine AB (A3 rfl (kn rfl) off_128_1) ?_
  refine AB (A4 rfl (kn rfl) rfl rfl one_9) ?_
  refine AH rfl rfl rfl rfl (by kernel_rfl) (Q1s _ _ (by first | exact .inl rfl | exact .inr rfl) s (tkAt l q).1.t (by omega)) ⟨rfl,trivial⟩ ⟨rfl,trivial⟩ ⟨(kn rfl),⟨(kn rfl),trivial⟩⟩ (BY.tidy) ?_
  rintro _ _ _ ⟨rfl,rfl,rfl⟩
  refine A6 ?_
  try refine A0 ?_
  refine A8 ?_
  refine AJ ?_
  refine AB (AC (ds:=[_]) [(0,_)] rfl ⟨rfl,(kn rfl),trivial⟩ rfl sl_54 sz_9 zr_9 (fun w D=>.cons (.cell _) (.nil _ _)) rfl rfl rfl rfl rfl) ?_
  refine AH rfl rfl rfl rfl (by kernel_rfl) (CR _ l hl [46] 4 rfl (by decide) (q+1) (by omega)) ⟨rfl,trivial⟩ trivial ⟨(kn rfl),⟨(kn rfl),trivial⟩⟩ (fun _ _ _ h=>PY.tidy h.1 h.2.1 h.2.2) ?_
  rintro _ _ _ ⟨rfl,rfl,rfl⟩
  refine AB (DL rfl (kn rfl)) ?_
  refine A6 ?_
  try refine A0 ?_
  refine AO rfl (fun h=>?_) (fun h=>?_)
  ·have h1:=J0 h
   rw[if_neg (by rw[h1];decide)]at hw
   rw[h1]
   try refine A0 ?_
   refine A8 ?_
   refine AH rfl rfl rfl rfl (by kernel_rfl) (Q3A _ _ (s++(tkAt l q).1.t) (fun e=>hne (List.append_eq_nil_iff.1 e).2) (by simp only[List.length_append];omega)) ⟨rfl,trivial⟩ ⟨rfl,trivial⟩ ⟨(kn rfl),trivial⟩ (StrY.tidy) ?_
   rintro _ _ _ ⟨rfl,rfl,rfl⟩
   refine AG ?_
   refine AG ?_
   refine A6 ?_
   try refine A0 ?_
   exact A7 (pB l (q+1)) ([]) rfl (.tmp (kn rfl) (.tmp (kn rfl) (.nil))) (Imp.refl _) ⟨s_b,trivial⟩ trivial (.inr ⟨s++(tkAt l q).1.t,q+1,hw,rfl,rfl,rfl⟩)
  have h1:=IB h
  have hlt1:=B7 h1
  rw[if_pos h1]at hw
  rw[h1]
  try refine A0 ?_
  refine A8 ?_
  refine AH rfl rfl rfl rfl (by kernel_rfl) (Q1s _ (.box 2 0) (.inr rfl) (s++(tkAt l q).1.t) [46] (by simp only[List.length_append,List.length_cons,List.length_nil];omega)) ⟨rfl,trivial⟩ ⟨rfl,trivial⟩ ⟨(kn rfl),⟨(kn rfl),trivial⟩⟩ (BY.tidy) ?_
  rintro _ _ _ ⟨rfl,rfl,rfl⟩
  refine A6 ?_
  try refine A0 ?_
  refine BB ⟨(m,s++(tkAt l q).1.t++[46],q+1+1,.box 2 0),by omega,by dsimp only;omega,by dsimp only;omega,by simp only[List.length_append,List.length_cons,List.length_nil];omega,.inr rfl,hw⟩ (by dsimp only;omega) (fun K=>B8 ⟨s_t,s_t,trivial⟩ ⟨s_b,s_b,trivial⟩ ⟨rfl,trivial⟩)
theorem VG{l:List Tk}(a:List UInt8):∀ (n:Nat) (s:List UInt8) (p:Nat),E3 l n (a++s) p=match E3 l n s p with | .error e=>.error e | .ok (t,q)=>.ok (a++t,q)
 | 0,s,p=>rfl
 | n+1,s,p=>by
  rw[E3,E3]
  cases DF l p with
  | error e=>rfl
  | ok x=>
   obtain⟨x,q⟩:=x
   dsimp only
   split
   ·rw[<- VG a n (s++x.1.t++[46]) (q+1)]
    simp[List.append_assoc]
   ·simp[List.append_assoc]
theorem OA{l:List Tk}(hl:TksOk l):∀ (n:Nat) (s:List UInt8) (p:Nat) {t:List UInt8} {q:Nat},E3 l n s p=.ok (t,q)->t.length+100001*p<=s.length+100001*q
 | 0,s,p,t,q,h=>by cases h
 | n+1,s,p,t,q,h=>by
  unfold E3 at h
  split at h
  ·cases h
  rename_i x r hx
  obtain⟨h1,h2,h3,_⟩:=EZ hx
  have h4:=hl.txt p
  rw[PT h3]at h4
  split at h
  ·have:=OA hl n _ _ h
   simp only[List.length_append,List.length_cons,List.length_nil]at this
   omega
  ·injection h with h
   injection h with h5 h6
   subst h5 h6
   simp only[List.length_append]
   omega
theorem Q0c{l:List Tk}{p:Nat}(h:tkIs l p 4 [46]=true):CX l true p=match E3 l (l.length+1) [] (p+1)with | .error e=>.error e | .ok (t,q)=>.ok ([46]++t,q):=by
 unfold CX
 rw[h,<- VG]
 rfl
theorem Q0L{l:List Tk}{p:Nat}(h:tkIs l p 4 [46]=false):CX l true p=E3 l (l.length+1) [] p:=by
 unfold CX
 rw[h]
 rfl
theorem S0(E8 E9:Er)(l:List Tk)(hl:PTk l)(p:Nat)(hp:p<=100000):EG Tryz.prog (gE E8 E9) 233 [.box 1 0] (pB l p) [] (QE l E8 E9 (fun x=>x.length<=10) sP (CX l true p)):=by
 refine B4 19 Tryz.func233 rfl rfl rfl fun w D bor mb=>?_
 try refine A0 ?_
 have hll:=hl.len
 refine A1 (AE rfl rfl rfl rfl rfl (AE rfl rfl rfl rfl rfl .nil)) ?_
 try refine A0 ?_
 refine A1 (AE rfl rfl rfl rfl rfl .nil) ?_
 try refine A0 ?_
 refine A8 ?_
 refine AJ ?_
 refine AB (AC (ds:=[_]) [(0,_)] rfl ⟨rfl,(kn rfl),trivial⟩ rfl sl_54 sz_9 zr_9 (fun w D=>.cons (.cell _) (.nil _ _)) rfl rfl rfl rfl rfl) ?_
 refine AH rfl rfl rfl rfl (by kernel_rfl) (CR _ l hl [46] 4 rfl (by decide) p (by omega)) ⟨rfl,trivial⟩ trivial ⟨(kn rfl),⟨(kn rfl),trivial⟩⟩ (fun _ _ _ h=>PY.tidy h.1 h.2.1 h.2.2) ?_
 rintro _ _ _ ⟨rfl,rfl,rfl⟩
 refine A6 ?_
 try refine A0 ?_
 refine AO rfl (fun h=>?_) (fun h=>?_)
 ·have hlt:=B7 h
  have hw:=Q0c h
  rw[h]
  try refine A0 ?_
  refine A1 (AE rfl rfl rfl rfl rfl .nil) ?_
  try refine A0 ?_
  refine A8 ?_
  refine AJ ?_
  refine AH rfl rfl rfl rfl (by kernel_rfl) (Q1i E8 E9 l hl (p+1) (by omega)) ⟨rfl,trivial⟩ trivial ⟨(kn rfl),trivial⟩ (QE.tidy) ?_
  rintro _ _ _ (⟨a,b,z,x,rfl,he,rfl,rfl,rfl⟩ | ⟨x,z,he,rfl,rfl,rfl⟩)
  ·refine AJ ?_
   refine B3 ?_
   refine B3 ?_
   refine AG ?_
   refine AG ?_
   refine A6 ?_
   try refine A0 ?_
   refine A1 (AA rfl rfl rfl rfl rfl (AA rfl rfl rfl rfl rfl (A5 rfl rfl rfl (AN rfl (kn rfl) (kn rfl) (IP (by first | omega | (simp only[List.length_append,List.length_cons,List.length_nil];omega)))) (AA rfl rfl rfl rfl rfl (AE rfl rfl rfl rfl rfl (AE rfl rfl rfl rfl rfl .nil)))))) ?_
   try refine A0 ?_
   exact A7 (pB l z) ([]) rfl (.tmp (kn rfl) (.tmp (kn rfl) (.nil))) (Imp.refl _) ⟨s_b,trivial⟩ trivial (.inl ⟨a,b,z,[46]++[],by simp,by rw[hw];simp[he],rfl,rfl,rfl⟩)
  have hsl:=OA hl.toTksOk _ _ _ he
  simp only[List.length_nil]at hsl
  have hst:=KN _ _ _ he
  refine AJ ?_
  refine B3 ?_
  refine B3 ?_
  refine AG ?_
  refine AG ?_
  refine A6 ?_
  try refine A0 ?_
  refine A1 (AA rfl rfl rfl rfl rfl (AA rfl rfl rfl rfl rfl (A5 rfl rfl rfl (AN rfl (kn rfl) (kn rfl) (IP (by first | omega | (simp only[List.length_append,List.length_cons,List.length_nil];omega)))) (AA rfl rfl rfl rfl rfl (AE rfl rfl rfl rfl rfl (AE rfl rfl rfl rfl rfl .nil)))))) ?_
  try refine A0 ?_
  exact A7 (pB l z) ([]) rfl (.tmp (kn rfl) (.tmp (kn rfl) (.nil))) (Imp.refl _) ⟨s_b,trivial⟩ trivial (.inr ⟨[46]++x,z,by rw[hw];simp[he],rfl,rfl,rfl⟩)
 ·have hw:=Q0L h
  rw[h]
  try refine A0 ?_
  refine A8 ?_
  refine AJ ?_
  refine AH rfl rfl rfl rfl (by kernel_rfl) (Q1i E8 E9 l hl (p) (by omega)) ⟨rfl,trivial⟩ trivial ⟨(kn rfl),trivial⟩ (QE.tidy) ?_
  rintro _ _ _ (⟨a,b,z,x,rfl,he,rfl,rfl,rfl⟩ | ⟨x,z,he,rfl,rfl,rfl⟩)
  ·refine AJ ?_
   refine B3 ?_
   refine B3 ?_
   refine AG ?_
   refine AG ?_
   refine A6 ?_
   try refine A0 ?_
   refine A1 (AA rfl rfl rfl rfl rfl (AA rfl rfl rfl rfl rfl (A5 rfl rfl rfl (AN rfl (kn rfl) (kn rfl) (IP (by first | omega | (simp only[List.length_append,List.length_cons,List.length_nil];omega)))) (AA rfl rfl rfl rfl rfl (AE rfl rfl rfl rfl rfl (AE rfl rfl rfl rfl rfl .nil)))))) ?_
   try refine A0 ?_
   exact A7 (pB l z) ([]) rfl (.tmp (kn rfl) (.tmp (kn rfl) (.nil))) (Imp.refl _) ⟨s_b,trivial⟩ trivial (.inl ⟨a,b,z,[]++[],by simp,by rw[hw];simp[he],rfl,rfl,rfl⟩)
  have hsl:=OA hl.toTksOk _ _ _ he
  simp only[List.length_nil]at hsl
  have hst:=KN _ _ _ he
  refine AJ ?_
  refine B3 ?_
  refine B3 ?_
  refine AG ?_
  refine AG ?_
  refine A6 ?_
  try refine A0 ?_
  refine A1 (AA rfl rfl rfl rfl rfl (AA rfl rfl rfl rfl rfl (A5 rfl rfl rfl (AN rfl (kn rfl) (kn rfl) (IP (by first | omega | (simp only[List.length_append,List.length_cons,List.length_nil];omega)))) (AA rfl rfl rfl rfl rfl (AE rfl rfl rfl rfl rfl (AE rfl rfl rfl rfl rfl .nil)))))) ?_
  try refine A0 ?_
  exact A7 (pB l z) ([]) rfl (.tmp (kn rfl) (.tmp (kn rfl) (.nil))) (Imp.refl _) ⟨s_b,trivial⟩ trivial (.inr ⟨[]++x,z,by rw[hw];simp[he],rfl,rfl,rfl⟩)
def SN(l:List Tk)(p:Nat):AZ (Int×Nat):=if tkIs l p 1 [109,97,120]then .ok (536870911,p+1)else D9 l p
theorem Q59(E8 E9:Er)(l:List Tk)(hl:PTk l)(p:Nat)(hp:p<=100000):EG Tryz.prog (gE E8 E9) 242 [.box 1 0] (pB l p) [] (QE l E8 E9 (fun _=>True) iP (SN l p)):=by
 refine B4 17 Tryz.func242 rfl rfl rfl fun w D bor mb=>?_
 try refine A0 ?_
 have hll:=hl.len
 refine A1 (AE rfl rfl rfl rfl rfl (AE rfl rfl rfl rfl rfl .nil)) ?_
 try refine A0 ?_
 refine A8 ?_
 refine AJ ?_
 refine AB (AC (ds:=[_]) [(0,_)] rfl ⟨rfl,(kn rfl),trivial⟩ rfl sl_54 sz_9 zr_9 (fun w D=>.cons (.cell _) (.nil _ _)) rfl rfl rfl rfl rfl) ?_
 refine AH rfl rfl rfl rfl (by kernel_rfl) (CR _ l hl [109,97,120] 1 rfl (by decide) p (by omega)) ⟨rfl,trivial⟩ trivial ⟨(kn rfl),⟨(kn rfl),trivial⟩⟩ (fun _ _ _ h=>PY.tidy h.1 h.2.1 h.2.2) ?_
 rintro _ _ _ ⟨rfl,rfl,rfl⟩
 refine A6 ?_
 try refine A0 ?_
 refine AO rfl (fun h=>?_) (fun h=>?_)
 ·have hw:SN l p=.ok (536870911,p+1):=if_pos h
  rw[h]
  try refine A0 ?_
  refine A1 (AE rfl rfl rfl rfl rfl (AE rfl rfl rfl rfl rfl .nil)) ?_
  try refine A0 ?_
  exact A7 (pB l (p+1)) ([]) rfl (.tmp (kn rfl) (.tmp (kn rfl) (.nil))) (Imp.refl _) ⟨s_b,trivial⟩ trivial (.inr ⟨536870911,p+1,hw,rfl,rfl,rfl⟩)
 have hw:SN l p=D9 l p:=if_neg (by rw[h];decide)
 rw[h]
 try refine A0 ?_
 refine A8 ?_
 refine AJ ?_
 refine AH rfl rfl rfl rfl (by kernel_rfl) (DB E8 E9 l hl.toTksOk p 2 (by omega)) ⟨rfl,trivial⟩ trivial ⟨(kn rfl),⟨(kn rfl),trivial⟩⟩ (TY.tidy) ?_
 rintro _ _ _ (⟨hk,rfl,rfl,rfl⟩ | ⟨hk,rfl,rfl,rfl⟩)
 ·refine AJ ?_
  refine B3 ?_
  refine B3 ?_
  refine AS 4 [.is (.int .i64 0),.is (.string ⟨#[]⟩),.is (.int .i64 0),.is (.int .i64 0),.is (.int .i64 0)] rfl rfl rfl rfl zr_128 (fun w D M V=>⟨rfl,fun j x v h1 h2=>AR _ h1 h2 rfl⟩) rfl rfl rfl rfl ?_
  refine AI rfl rfl rfl (kn rfl) rfl (kn rfl) rfl rfl sz_128 ?_
  refine AG ?_
  refine A6 ?_
  try refine A0 ?_
  refine A1 (A5 rfl rfl rfl (A3 rfl (kn rfl) off_128_2) (A5 rfl rfl rfl (A4 rfl (kn rfl) rfl rfl one_3) (AA rfl rfl rfl rfl rfl (AE rfl rfl rfl rfl rfl (AE rfl rfl rfl rfl rfl .nil))))) ?_
  try refine A0 ?_
  exact A7 (pB l p) ([]) rfl (.tmp (kn rfl) (.tmp (kn rfl) (.nil))) (Imp.refl _) ⟨s_b,trivial⟩ trivial (.inl ⟨p,9,p,0,trivial,hw.trans (GZ hk),rfl,rfl,rfl⟩)
 refine AJ ?_
 refine B3 ?_
 refine B3 ?_
 refine AS 4 [.is (.int .i64 0),.is (.string ⟨#[]⟩),.is (.int .i64 0),.is (.int .i64 0),.is (.int .i64 0)] rfl rfl rfl rfl zr_128 (fun w D M V=>⟨rfl,fun j x v h1 h2=>AR _ h1 h2 rfl⟩) rfl rfl rfl rfl ?_
 refine AI rfl rfl rfl (kn rfl) rfl (kn rfl) rfl rfl sz_128 ?_
 refine AG ?_
 refine A6 ?_
 try refine A0 ?_
 refine A1 (A5 rfl rfl rfl (A3 rfl (kn rfl) off_128_2) (A5 rfl rfl rfl (A4 rfl (kn rfl) rfl rfl one_3) (AA rfl rfl rfl rfl rfl (AE rfl rfl rfl rfl rfl (AE rfl rfl rfl rfl rfl .nil))))) ?_
 try refine A0 ?_
 exact A7 (pB l (p+1)) ([]) rfl (.tmp (kn rfl) (.tmp (kn rfl) (.nil))) (Imp.refl _) ⟨s_b,trivial⟩ trivial (.inr ⟨(tkAt l p).1.n,p+1,hw.trans (J2 hk).2,rfl,rfl,rfl⟩)
def ME{σ:Type}(l:List Tk)(E8 E9:Er)(S:σ->Nat->BL)(U:σ->RL)(r:AZ (σ×Nat))(y:IV)(B1:BL)(R1:RL):Prop:=
 (∃ a b z x,r=.error (a,b)/\y=.part (YK l a (erv E8 E9 b))/\B1=S x z/\R1=U x)\/(∃ x z,r=.ok (x,z)/\y=.part IS/\B1=S x z/\R1=U x)
abbrev fX(f:Fld):Bx:=⟨210,bcs f.dats⟩
abbrev fB(l:List Tk)(f:Fld)(q:Nat):BL:=[(1,pX l q),(2,fX f)]
abbrev FE(l:List Tk)(E8 E9:Er)(r:AZ (Fld×Nat))(y:IV)(B1:BL)(R1:RL):Prop:=ME l E8 E9 (fB l) (fun _=>[]) r y B1 R1
theorem FE.tidy{l:List Tk}{E8 E9:Er}{r:AZ (Fld×Nat)}{f:Fld}{q:Nat}(y:IV)(B1:BL)(R1:RL)(h:FE l E8 E9 r y B1 R1):H0 (fB l f q) [] y B1 R1:=by
 rcases h with⟨a,b,z,x,_,rfl,rfl,rfl⟩ | ⟨x,z,_,rfl,rfl,rfl⟩<;>exact⟨rfl,rfl,rfl,rfl⟩
def JN(l:List Tk)(f:Fld)(p:Nat):AZ (Fld×Nat):=
  match BK l 4 [61] p with
  | .error e=>.error e
  | .ok q=>
   if tkIs l q 1 [116,114,117,101]then .ok ({ f with packed:=1 },q+1)
   else if tkIs l q 1 [102,97,108,115,101]then .ok ({ f with packed:=2 },q+1)
   else D1 q
def Q0H(l:List Tk)(f:Fld)(p:Nat):AZ (Fld×Nat):=
  match BK l 4 [61] p with
  | .error e=>.error e
  | .ok q=>
   match DF l q with
   | .error e=>.error e
   | .ok (x,r)=>.ok ({ f with key:=x.1.t },r)
theorem D4(E8 E9:Er)(l:List Tk)(hl:PTk l)(k:Nat)(t:List UInt8)(hk:kindT t=k)(hws:t∈ws)(q:Nat)(hq:q<=120000):
  EG Tryz.prog (gE E8 E9) 78 [.box 1 0,.part (Q1c [t])] (pB l q) [] (PE l E8 E9 (BK l k t q)):=by
 have h:=Q48 E8 E9 l hl [t] (by simp) (by simpa using hws) q hq
 rw[R9,hk]at h
 exact h
theorem Q3R(E8 E9:Er)(l:List Tk)(hl:PTk l)(f:Fld)(p:Nat)(hp:p<=100001):EG Tryz.prog (gE E8 E9) 246 [.box 1 0,.box 2 0] (fB l f p) [] (FE l E8 E9 (JN l f p)):=by
 refine B4 28 Tryz.func246 rfl rfl rfl fun w D bor mb=>?_
 try refine A0 ?_
 have hll:=hl.len
 refine A1 (AE rfl rfl rfl rfl rfl .nil) ?_
 try refine A0 ?_
 refine A8 ?_
 refine AJ ?_
 refine AB (AC (ds:=[_]) [(0,_)] rfl ⟨rfl,(kn rfl),trivial⟩ rfl sl_54 sz_9 zr_9 (fun w D=>.cons (.cell _) (.nil _ _)) rfl rfl rfl rfl rfl) ?_
 refine AH rfl rfl rfl rfl (by kernel_rfl) (D4 E8 E9 l hl 4 [61] rfl (by decide) p (by omega)) ⟨rfl,trivial⟩ trivial ⟨(kn rfl),⟨(kn rfl),trivial⟩⟩ (PE.tidy) ?_
 rintro _ _ _ (⟨a,b,z,he,rfl,rfl,rfl⟩ | ⟨q,ho,rfl,rfl,rfl⟩)
 ·refine AG ?_
  refine A6 ?_
  try refine A0 ?_
  refine A1 (AA rfl rfl rfl rfl rfl (A5 rfl rfl rfl (AP rfl (kn rfl) rfl ifc_28) .nil)) ?_
  try refine A0 ?_
  refine BD ?_
  try refine A0 ?_
  refine A1 (AA rfl rfl rfl rfl rfl (AE rfl rfl rfl rfl rfl .nil)) ?_
  try refine A0 ?_
  exact A7 (fB l f z) ([]) rfl (.tmp (kn rfl) (.nil)) (Imp.refl _) ⟨s_b,s_b,trivial⟩ trivial (.inl ⟨a,b,z,f,by simp only[JN,he],rfl,rfl,rfl⟩)
 refine AG ?_
 refine A6 ?_
 try refine A0 ?_
 refine A1 (AA rfl rfl rfl rfl rfl (A5 rfl rfl rfl (AQ rfl (kn rfl) ifc_28) .nil)) ?_
 try refine A0 ?_
 refine C1 ?_
 try refine A0 ?_
 have ho1:=BA ho
 refine A8 ?_
 refine AJ ?_
 refine AB (AC (ds:=[_]) [(0,_)] rfl ⟨rfl,(kn rfl),trivial⟩ rfl sl_54 sz_9 zr_9 (fun w D=>.cons (.cell _) (.nil _ _)) rfl rfl rfl rfl rfl) ?_
 refine AH rfl rfl rfl rfl (by kernel_rfl) (CR _ l hl [116,114,117,101] 1 rfl (by decide) q (by omega)) ⟨rfl,trivial⟩ trivial ⟨(kn rfl),⟨(kn rfl),trivial⟩⟩ (fun _ _ _ h=>PY.tidy h.1 h.2.1 h.2.2) ?_
 rintro _ _ _ ⟨rfl,rfl,rfl⟩
 refine AG ?_
 refine A6 ?_
 try refine A0 ?_
 refine AO rfl (fun h=>?_) (fun h=>?_)
 ·rw[h]
  try refine A0 ?_
  refine A8 ?_
  refine AJ ?_
  refine AB (AL rfl (kn rfl)) ?_
  refine AB (A3 rfl (kn rfl) off_210_6) ?_
  refine C3 rfl rfl rfl (kn rfl) rfl (kn rfl) rfl rfl sz_3 rfl ?_
  refine A6 ?_
  try refine A0 ?_
  refine A1 (AE rfl rfl rfl rfl rfl .nil) ?_
  try refine A0 ?_
  exact A7 (fB l { f with packed:=1 } (q+1)) ([]) rfl (.tmp (kn rfl) (.nil)) (Imp.refl _) ⟨s_b,s_b,trivial⟩ trivial (.inr ⟨{ f with packed:=1 },q+1,by simp only[JN,ho,h,if_true],rfl,rfl,rfl⟩)
 rw[h]
 try refine A0 ?_
 refine A8 ?_
 refine AJ ?_
 refine AB (AC (ds:=[_]) [(0,_)] rfl ⟨rfl,(kn rfl),trivial⟩ rfl sl_54 sz_9 zr_9 (fun w D=>.cons (.cell _) (.nil _ _)) rfl rfl rfl rfl rfl) ?_
 refine AH rfl rfl rfl rfl (by kernel_rfl) (CR _ l hl [102,97,108,115,101] 1 rfl (by decide) q (by omega)) ⟨rfl,trivial⟩ trivial ⟨(kn rfl),⟨(kn rfl),trivial⟩⟩ (fun _ _ _ h=>PY.tidy h.1 h.2.1 h.2.2) ?_
 rintro _ _ _ ⟨rfl,rfl,rfl⟩
 refine AG ?_
 refine A6 ?_
 try refine A0 ?_
 refine AO rfl (fun h1=>?_) (fun h1=>?_)
 ·rw[h1]
  try refine A0 ?_
  refine A8 ?_
  refine AJ ?_
  refine AB (AL rfl (kn rfl)) ?_
  refine AB (A3 rfl (kn rfl) off_210_6) ?_
  refine C3 rfl rfl rfl (kn rfl) rfl (kn rfl) rfl rfl sz_3 rfl ?_
  refine A6 ?_
  try refine A0 ?_
  refine A1 (AE rfl rfl rfl rfl rfl .nil) ?_
  try refine A0 ?_
  exact A7 (fB l { f with packed:=2 } (q+1)) ([]) rfl (.tmp (kn rfl) (.nil)) (Imp.refl _) ⟨s_b,s_b,trivial⟩ trivial (.inr ⟨{ f with packed:=2 },q+1,by simp only[JN,ho,h,h1,if_true];rfl,rfl,rfl,rfl⟩)
 rw[h1]
 try refine A0 ?_
 refine A8 ?_
 refine AJ ?_
 refine AH rfl rfl rfl rfl (by kernel_rfl) (GF E8 E9 l hl.toTksOk q (by omega)) ⟨rfl,trivial⟩ trivial ⟨(kn rfl),trivial⟩ (fun _ _ _ h=>PY.tidy h.1 h.2.1 h.2.2) ?_
 rintro _ _ _ ⟨rfl,rfl,rfl⟩
 refine AG ?_
 refine A6 ?_
 try refine A0 ?_
 exact A7 (fB l f q) ([]) rfl (.tmp (kn rfl) (.nil)) (Imp.refl _) ⟨s_b,s_b,trivial⟩ trivial (.inl ⟨q,9,q,f,by simp only[JN,ho,h,h1];rfl,rfl,rfl,rfl⟩)
theorem Q6H(E8 E9:Er)(l:List Tk)(hl:PTk l)(f:Fld)(p:Nat)(hp:p<=100001):EG Tryz.prog (gE E8 E9) 247 [.box 1 0,.box 2 0] (fB l f p) [] (FE l E8 E9 (Q0H l f p)):=by
 refine B4 27 Tryz.func247 rfl rfl rfl fun w D bor mb=>?_
 try refine A0 ?_
 have hll:=hl.len
 refine A1 (AE rfl rfl rfl rfl rfl .nil) ?_
 try refine A0 ?_
 refine A8 ?_
 refine AJ ?_
 refine AB (AC (ds:=[_]) [(0,_)] rfl ⟨rfl,(kn rfl),trivial⟩ rfl sl_54 sz_9 zr_9 (fun w D=>.cons (.cell _) (.nil _ _)) rfl rfl rfl rfl rfl) ?_
 refine AH rfl rfl rfl rfl (by kernel_rfl) (D4 E8 E9 l hl 4 [61] rfl (by decide) p (by omega)) ⟨rfl,trivial⟩ trivial ⟨(kn rfl),⟨(kn rfl),trivial⟩⟩ (PE.tidy) ?_
 rintro _ _ _ (⟨a,b,z,he,rfl,rfl,rfl⟩ | ⟨q,ho,rfl,rfl,rfl⟩)
 ·refine AG ?_
  refine A6 ?_
  try refine A0 ?_
  refine A1 (AA rfl rfl rfl rfl rfl (A5 rfl rfl rfl (AP rfl (kn rfl) rfl ifc_28) .nil)) ?_
  try refine A0 ?_
  refine BD ?_
  try refine A0 ?_
  refine A1 (AA rfl rfl rfl rfl rfl (AE rfl rfl rfl rfl rfl .nil)) ?_
  try refine A0 ?_
  exact A7 (fB l f z) ([]) rfl (.tmp (kn rfl) (.nil)) (Imp.refl _) ⟨s_b,s_b,trivial⟩ trivial (.inl ⟨a,b,z,f,by simp only[Q0H,he],rfl,rfl,rfl⟩)
 refine AG ?_
 refine A6 ?_
 try refine A0 ?_
 refine A1 (AA rfl rfl rfl rfl rfl (A5 rfl rfl rfl (AQ rfl (kn rfl) ifc_28) .nil)) ?_
 try refine A0 ?_
 refine C1 ?_
 try refine A0 ?_
 have ho1:=BA ho
 refine A8 ?_
 refine AJ ?_
 refine AH rfl rfl rfl rfl (by kernel_rfl) (DB E8 E9 l hl.toTksOk (q) 1 (by omega)) ⟨rfl,trivial⟩ trivial ⟨(kn rfl),⟨(kn rfl),trivial⟩⟩ (TY.tidy) ?_
 rintro _ _ _ (⟨hk,rfl,rfl,rfl⟩ | ⟨hk,rfl,rfl,rfl⟩)
 ·refine AJ ?_
  refine B3 ?_
  refine B3 ?_
  refine AS 6 [.is (.int .i64 0),.is (.string ⟨#[]⟩),.is (.int .i64 0),.is (.int .i64 0),.is (.int .i64 0)] rfl rfl rfl rfl zr_128 (fun w D M V=>⟨rfl,fun j x v h1 h2=>AR _ h1 h2 rfl⟩) rfl rfl rfl rfl ?_
  refine AI rfl rfl rfl (kn rfl) rfl (kn rfl) rfl rfl sz_128 ?_
  refine AG ?_
  refine A6 ?_
  try refine A0 ?_
  refine A1 (AA rfl rfl rfl rfl rfl (A5 rfl rfl rfl (AP rfl (kn rfl) rfl ifc_28) .nil)) ?_
  try refine A0 ?_
  refine BD ?_
  try refine A0 ?_
  refine A1 (AA rfl rfl rfl rfl rfl (AE rfl rfl rfl rfl rfl .nil)) ?_
  try refine A0 ?_
  exact A7 (fB l f q) ([]) rfl (.tmp (kn rfl) (.nil)) (Imp.refl _) ⟨s_b,s_b,trivial⟩ trivial (.inl ⟨q,9,q,f,by simp only[Q0H,ho,DY hk],rfl,rfl,rfl⟩)
 refine AJ ?_
 refine B3 ?_
 refine B3 ?_
 refine AS 6 [.is (.int .i64 0),.is (.string ⟨#[]⟩),.is (.int .i64 0),.is (.int .i64 0),.is (.int .i64 0)] rfl rfl rfl rfl zr_128 (fun w D M V=>⟨rfl,fun j x v h1 h2=>AR _ h1 h2 rfl⟩) rfl rfl rfl rfl ?_
 refine AI rfl rfl rfl (kn rfl) rfl (kn rfl) rfl rfl sz_128 ?_
 refine AG ?_
 refine A6 ?_
 try refine A0 ?_
 refine A1 (AA rfl rfl rfl rfl rfl (A5 rfl rfl rfl (AQ rfl (kn rfl) ifc_28) .nil)) ?_
 try refine A0 ?_
 refine C1 ?_
 try refine A0 ?_
 refine A8 ?_
 refine AJ ?_
 refine AB (A3 rfl (kn rfl) off_128_1) ?_
 refine AB (A4 rfl (kn rfl) rfl rfl one_9) ?_
 refine AB (AL rfl (kn rfl)) ?_
 refine AB (A3 rfl (kn rfl) off_210_3) ?_
 refine C3 rfl rfl rfl (kn rfl) rfl (kn rfl) rfl rfl sz_9 rfl ?_
 refine A6 ?_
 try refine A0 ?_
 refine A1 (AE rfl rfl rfl rfl rfl .nil) ?_
 try refine A0 ?_
 exact A7 (fB l { f with key:=(tkAt l q).1.t } (q+1)) ([]) rfl (.tmp (kn rfl) (.nil)) (Imp.refl _) ⟨s_b,s_b,trivial⟩ trivial (.inr ⟨{ f with key:=(tkAt l q).1.t },q+1,by simp only[Q0H,ho,(G4 hk).2],rfl,rfl,rfl⟩)
theorem F5(l:List Tk)(f:Fld)(p:Nat):CW l f p=if tkIs l p 1 [112,97,99,107,101,100]&&decide (f.packed=0)then JN l f (p+1)else if tkIs l p 1 [107,101,121]&&decide (f.key=[])then Q0H l f (p+1)else D1 p:=rfl
set_option maxHeartbeats 1000000 in
theorem Q4o(E8 E9:Er)(l:List Tk)(hl:PTk l)(f:Fld)(p:Nat)(hp:p<=100000):EG Tryz.prog (gE E8 E9) 244 [.box 1 0,.box 2 0] (fB l f p) [] (FE l E8 E9 (CW l f p)):=by
 refine B4 35 Tryz.func244 rfl rfl rfl fun w D bor mb=>?_
 try refine A0 ?_
 have hll:=hl.len
 refine A1 (AE rfl rfl rfl rfl rfl .nil) ?_
 try refine A0 ?_
 refine A8 ?_
 refine AJ ?_
 refine AB (AL rfl (kn rfl)) ?_
 refine AB (A3 rfl (kn rfl) off_210_6) ?_
 refine AB (A4 rfl (kn rfl) rfl rfl one_3) ?_
 refine AB (AN rfl (kn rfl) (kn rfl) D3) ?_
 refine AJ ?_
 refine C6 rfl rfl rfl (fun h=>C8 rfl (kn rfl)) ?_
 refine C6 rfl rfl rfl (fun h=>AC (ds:=[_]) [(0,_)] rfl ⟨rfl,(kn rfl),trivial⟩ rfl sl_54 sz_9 zr_9 (fun w D=>.cons (.cell _) (.nil _ _)) rfl rfl rfl rfl rfl) ?_
 refine L2 rfl rfl rfl (fun h=>?_) (fun h=>?_)
 ·refine AH rfl rfl rfl rfl (by kernel_rfl) (CR _ l hl [112,97,99,107,101,100] 1 rfl (by decide) p (by omega)) ⟨rfl,trivial⟩ trivial ⟨(A9 rfl h),⟨(A9 rfl h),trivial⟩⟩ (fun _ _ _ h=>PY.tidy h.1 h.2.1 h.2.2) ?_
  rintro _ _ _ ⟨rfl,rfl,rfl⟩
  refine AB (EC rfl (kn rfl) (fun _=>kn rfl)) ?_
  refine AG ?_
  refine A6 ?_
  try refine A0 ?_
  refine AO rfl (fun hc=>?_) (fun hc=>?_)
  ·have h2:tkIs l p 1 [112,97,99,107,101,100]=true:=(Bool.and_eq_true _ _▸hc).2
   have hlt:=B7 h2
   have hw:CW l f p=JN l f (p+1):=by rw[F5,h2,h];rfl
   rw[h2]
   try refine A0 ?_
   refine A8 ?_
   refine AJ ?_
   refine AJ ?_
   refine AH rfl rfl rfl rfl (by kernel_rfl) (Q3R E8 E9 l hl f (p+1) (by omega)) ⟨rfl,rfl,trivial⟩ trivial ⟨(kn rfl),⟨(kn rfl),trivial⟩⟩ (FE.tidy) ?_
   rintro _ _ _ (⟨a,b,z,g,he,rfl,rfl,rfl⟩ | ⟨g,z,ho,rfl,rfl,rfl⟩)
   ·refine AG ?_
    refine A6 ?_
    try refine A0 ?_
    exact A7 (fB l g z) ([]) rfl (.tmp (kn rfl) (.nil)) (Imp.refl _) ⟨s_b,s_b,trivial⟩ trivial (.inl ⟨a,b,z,g,hw.trans he,rfl,rfl,rfl⟩)
   ·refine AG ?_
    refine A6 ?_
    try refine A0 ?_
    exact A7 (fB l g z) ([]) rfl (.tmp (kn rfl) (.nil)) (Imp.refl _) ⟨s_b,s_b,trivial⟩ trivial (.inr ⟨g,z,hw.trans ho,rfl,rfl,rfl⟩)
  ·have h2:tkIs l p 1 [112,97,99,107,101,100]=false:=by
    rw[h,Bool.true_and]at hc
    exact hc
   have hnp:(tkIs l p 1 [112,97,99,107,101,100]&&decide (f.packed=0))=false:=by rw[h2];rfl
   rw[h2]
   try refine A0 ?_
   refine A8 ?_
   refine AJ ?_
   refine AB (AL rfl (kn rfl)) ?_
   refine AB (A3 rfl (kn rfl) off_210_3) ?_
   refine AB (A4 rfl (kn rfl) rfl rfl one_9) ?_
   refine AB (AN rfl (kn rfl) (kn rfl) (KJ (b:=[]))) ?_
   refine AJ ?_
   refine C6 rfl rfl rfl (fun h=>C8 rfl (kn rfl)) ?_
   refine C6 rfl rfl rfl (fun h=>AC (ds:=[_]) [(0,_)] rfl ⟨rfl,(kn rfl),trivial⟩ rfl sl_54 sz_9 zr_9 (fun w D=>.cons (.cell _) (.nil _ _)) rfl rfl rfl rfl rfl) ?_
   refine L2 rfl rfl rfl (fun h=>?_) (fun h=>?_)
   ·refine AH rfl rfl rfl rfl (by kernel_rfl) (CR _ l hl [107,101,121] 1 rfl (by decide) p (by omega)) ⟨rfl,trivial⟩ trivial ⟨(A9 rfl h),⟨(A9 rfl h),trivial⟩⟩ (fun _ _ _ h=>PY.tidy h.1 h.2.1 h.2.2) ?_
    rintro _ _ _ ⟨rfl,rfl,rfl⟩
    refine AB (EC rfl (kn rfl) (fun _=>kn rfl)) ?_
    refine AG ?_
    refine A6 ?_
    try refine A0 ?_
    refine AO rfl (fun hc=>?_) (fun hc=>?_)
    ·have h2:tkIs l p 1 [107,101,121]=true:=(Bool.and_eq_true _ _▸hc).2
     have hlt:=B7 h2
     have hw:CW l f p=Q0H l f (p+1):=by rw[F5,hnp,if_neg (by decide),h2,h];rfl
     rw[h2]
     try refine A0 ?_
     refine A8 ?_
     refine AJ ?_
     refine AJ ?_
     refine AH rfl rfl rfl rfl (by kernel_rfl) (Q6H E8 E9 l hl f (p+1) (by omega)) ⟨rfl,rfl,trivial⟩ trivial ⟨(kn rfl),⟨(kn rfl),trivial⟩⟩ (FE.tidy) ?_
     rintro _ _ _ (⟨a,b,z,g,he,rfl,rfl,rfl⟩ | ⟨g,z,ho,rfl,rfl,rfl⟩)
     ·refine AG ?_
      refine A6 ?_
      try refine A0 ?_
      exact A7 (fB l g z) ([]) rfl (.tmp (kn rfl) (.nil)) (Imp.refl _) ⟨s_b,s_b,trivial⟩ trivial (.inl ⟨a,b,z,g,hw.trans he,rfl,rfl,rfl⟩)
     ·refine AG ?_
      refine A6 ?_
      try refine A0 ?_
      exact A7 (fB l g z) ([]) rfl (.tmp (kn rfl) (.nil)) (Imp.refl _) ⟨s_b,s_b,trivial⟩ trivial (.inr ⟨g,z,hw.trans ho,rfl,rfl,rfl⟩)
    ·have h2:tkIs l p 1 [107,101,121]=false:=by
      rw[h,Bool.true_and]at hc
      exact hc
     have hw:CW l f p=.error (p,9):=by rw[F5,hnp,if_neg (by decide),h2];rfl
     rw[h2]
     try refine A0 ?_
     refine A8 ?_
     refine AJ ?_
     refine AH rfl rfl rfl rfl (by kernel_rfl) (GF E8 E9 l hl.toTksOk p (by omega)) ⟨rfl,trivial⟩ trivial ⟨(kn rfl),trivial⟩ (fun _ _ _ h=>PY.tidy h.1 h.2.1 h.2.2) ?_
     rintro _ _ _ ⟨rfl,rfl,rfl⟩
     refine AG ?_
     refine A6 ?_
     try refine A0 ?_
     exact A7 (fB l f p) ([]) rfl (.tmp (kn rfl) (.nil)) (Imp.refl _) ⟨s_b,s_b,trivial⟩ trivial (.inl ⟨p,9,p,f,hw,rfl,rfl,rfl⟩)
   ·have hw:CW l f p=.error (p,9):=by rw[F5,hnp,if_neg (by decide),h,Bool.and_false];rfl
    refine AB (EC (b:=false) rfl (kn rfl) (fun hb=>absurd (hb.symm.trans h) (by decide))) ?_
    refine AG ?_
    refine A6 ?_
    try refine A0 ?_
    refine AO rfl (fun hc=>?_) (fun hc=>?_)
    ·rw[Bool.and_false]at hc
     cases hc
    try refine A0 ?_
    refine A8 ?_
    refine AJ ?_
    refine AH rfl rfl rfl rfl (by kernel_rfl) (GF E8 E9 l hl.toTksOk p (by omega)) ⟨rfl,trivial⟩ trivial ⟨(kn rfl),trivial⟩ (fun _ _ _ h=>PY.tidy h.1 h.2.1 h.2.2) ?_
    rintro _ _ _ ⟨rfl,rfl,rfl⟩
    refine AG ?_
    refine A6 ?_
    try refine A0 ?_
    exact A7 (fB l f p) ([]) rfl (.tmp (kn rfl) (.nil)) (Imp.refl _) ⟨s_b,s_b,trivial⟩ trivial (.inl ⟨p,9,p,f,hw,rfl,rfl,rfl⟩)
 ·have hnp:(tkIs l p 1 [112,97,99,107,101,100]&&decide (f.packed=0))=false:=by rw[h,Bool.and_false]
  refine AB (EC (b:=false) rfl (kn rfl) (fun hb=>absurd (hb.symm.trans h) (by decide))) ?_
  refine AG ?_
  refine A6 ?_
  try refine A0 ?_
  refine AO rfl (fun hc=>?_) (fun hc=>?_)
  ·rw[Bool.and_false]at hc
   cases hc
  try refine A0 ?_
  refine A8 ?_
  refine AJ ?_
  refine AB (AL rfl (kn rfl)) ?_
  refine AB (A3 rfl (kn rfl) off_210_3) ?_
  refine AB (A4 rfl (kn rfl) rfl rfl one_9) ?_
  refine AB (AN rfl (kn rfl) (kn rfl) (KJ (b:=[]))) ?_
  refine AJ ?_
  refine C6 rfl rfl rfl (fun h=>C8 rfl (kn rfl)) ?_
  refine C6 rfl rfl rfl (fun h=>AC (ds:=[_]) [(0,_)] rfl ⟨rfl,(kn rfl),trivial⟩ rfl sl_54 sz_9 zr_9 (fun w D=>.cons (.cell _) (.nil _ _)) rfl rfl rfl rfl rfl) ?_
  refine L2 rfl rfl rfl (fun h=>?_) (fun h=>?_)
  ·refine AH rfl rfl rfl rfl (by kernel_rfl) (CR _ l hl [107,101,121] 1 rfl (by decide) p (by omega)) ⟨rfl,trivial⟩ trivial ⟨(A9 rfl h),⟨(A9 rfl h),trivial⟩⟩ (fun _ _ _ h=>PY.tidy h.1 h.2.1 h.2.2) ?_
   rintro _ _ _ ⟨rfl,rfl,rfl⟩
   refine AB (EC rfl (kn rfl) (fun _=>kn rfl)) ?_
   refine AG ?_
   refine A6 ?_
   try refine A0 ?_
   refine AO rfl (fun hc=>?_) (fun hc=>?_)
   ·have h2:tkIs l p 1 [107,101,121]=true:=(Bool.and_eq_true _ _▸hc).2
    have hlt:=B7 h2
    have hw:CW l f p=Q0H l f (p+1):=by rw[F5,hnp,if_neg (by decide),h2,h];rfl
    rw[h2]
    try refine A0 ?_
    refine A8 ?_
    refine AJ ?_
    refine AJ ?_
    refine AH rfl rfl rfl rfl (by kernel_rfl) (Q6H E8 E9 l hl f (p+1) (by omega)) ⟨rfl,rfl,trivial⟩ trivial ⟨(kn rfl),⟨(kn rfl),trivial⟩⟩ (FE.tidy) ?_
    rintro _ _ _ (⟨a,b,z,g,he,rfl,rfl,rfl⟩ | ⟨g,z,ho,rfl,rfl,rfl⟩)
    ·refine AG ?_
     refine A6 ?_
     try refine A0 ?_
     exact A7 (fB l g z) ([]) rfl (.tmp (kn rfl) (.nil)) (Imp.refl _) ⟨s_b,s_b,trivial⟩ trivial (.inl ⟨a,b,z,g,hw.trans he,rfl,rfl,rfl⟩)
    ·refine AG ?_
     refine A6 ?_
     try refine A0 ?_
     exact A7 (fB l g z) ([]) rfl (.tmp (kn rfl) (.nil)) (Imp.refl _) ⟨s_b,s_b,trivial⟩ trivial (.inr ⟨g,z,hw.trans ho,rfl,rfl,rfl⟩)
   ·have h2:tkIs l p 1 [107,101,121]=false:=by
     rw[h,Bool.true_and]at hc
     exact hc
    have hw:CW l f p=.error (p,9):=by rw[F5,hnp,if_neg (by decide),h2];rfl
    rw[h2]
    try refine A0 ?_
    refine A8 ?_
    refine AJ ?_
    refine AH rfl rfl rfl rfl (by kernel_rfl) (GF E8 E9 l hl.toTksOk p (by omega)) ⟨rfl,trivial⟩ trivial ⟨(kn rfl),trivial⟩ (fun _ _ _ h=>PY.tidy h.1 h.2.1 h.2.2) ?_
    rintro _ _ _ ⟨rfl,rfl,rfl⟩
    refine AG ?_
    refine A6 ?_
    try refine A0 ?_
    exact A7 (fB l f p) ([]) rfl (.tmp (kn rfl) (.nil)) (Imp.refl _) ⟨s_b,s_b,trivial⟩ trivial (.inl ⟨p,9,p,f,hw,rfl,rfl,rfl⟩)
  ·have hw:CW l f p=.error (p,9):=by rw[F5,hnp,if_neg (by decide),h,Bool.and_false];rfl
   refine AB (EC (b:=false) rfl (kn rfl) (fun hb=>absurd (hb.symm.trans h) (by decide))) ?_
   refine AG ?_
   refine A6 ?_
   try refine A0 ?_
   refine AO rfl (fun hc=>?_) (fun hc=>?_)
   ·rw[Bool.and_false]at hc
    cases hc
   try refine A0 ?_
   refine A8 ?_
   refine AJ ?_
   refine AH rfl rfl rfl rfl (by kernel_rfl) (GF E8 E9 l hl.toTksOk p (by omega)) ⟨rfl,trivial⟩ trivial ⟨(kn rfl),trivial⟩ (fun _ _ _ h=>PY.tidy h.1 h.2.1 h.2.2) ?_
   rintro _ _ _ ⟨rfl,rfl,rfl⟩
   refine AG ?_
   refine A6 ?_
   try refine A0 ?_
   exact A7 (fB l f p) ([]) rfl (.tmp (kn rfl) (.nil)) (Imp.refl _) ⟨s_b,s_b,trivial⟩ trivial (.inl ⟨p,9,p,f,hw,rfl,rfl,rfl⟩)
abbrev ptX:Bx:=⟨183,[.box 1 0]⟩
abbrev fB4(l:List Tk)(f:Fld)(q:Nat):BL:=[(4,ptX),(1,pX l q),(2,fX f)]
abbrev FE4(l:List Tk)(E8 E9:Er)(r:AZ (Fld×Nat))(y:IV)(B1:BL)(R1:RL):Prop:=ME l E8 E9 (fB4 l) (fun _=>[]) r y B1 R1
theorem FE4.tidy{l:List Tk}{E8 E9:Er}{r:AZ (Fld×Nat)}{f:Fld}{q:Nat}(y:IV)(B1:BL)(R1:RL)(h:FE4 l E8 E9 r y B1 R1):H0 (fB4 l f q) [] y B1 R1:=by
 rcases h with⟨a,b,z,x,_,rfl,rfl,rfl⟩ | ⟨x,z,_,rfl,rfl,rfl⟩<;>exact⟨rfl,rfl,rfl,rfl⟩
theorem Q4Q(E8 E9:Er)(l:List Tk)(hl:PTk l)(f:Fld)(p:Nat)(hp:p<=100000):EG Tryz.prog (gE E8 E9) 243 [.box 4 0,.box 2 0] (fB4 l f p) [] (FE4 l E8 E9 (CW l f p)):=by
 refine B4 5 Tryz.func243 rfl rfl rfl fun w D bor mb=>?_
 try refine A0 ?_
 refine A1 (AE rfl rfl rfl rfl rfl .nil) ?_
 try refine A0 ?_
 refine A8 ?_
 refine AB (A4 rfl (kn rfl) rfl rfl one_183) ?_
 refine AH rfl rfl rfl rfl (by kernel_rfl) (Q4o E8 E9 l hl f p hp) ⟨rfl,rfl,trivial⟩ trivial ⟨(kn rfl),⟨(kn rfl),trivial⟩⟩ (FE.tidy) ?_
 rintro _ _ _ (⟨a,b,z,g,he,rfl,rfl,rfl⟩ | ⟨g,z,ho,rfl,rfl,rfl⟩)
 ·refine AG ?_
  refine A6 ?_
  try refine A0 ?_
  exact A7 (fB4 l g z) ([]) rfl (.tmp (kn rfl) (.nil)) (Imp.refl _) ⟨s_b,s_b,s_b,trivial⟩ trivial (.inl ⟨a,b,z,g,he,rfl,rfl,rfl⟩)
 ·refine AG ?_
  refine A6 ?_
  try refine A0 ?_
  exact A7 (fB4 l g z) ([]) rfl (.tmp (kn rfl) (.nil)) (Imp.refl _) ⟨s_b,s_b,s_b,trivial⟩ trivial (.inr ⟨g,z,ho,rfl,rfl,rfl⟩)
def U1(l:List Tk):Nat->Fld->Nat->AZ (Fld×Nat)
 | 0,_,p=>D1 p
 | n+1,f,p=>
  match CW l f p with
  | .error e=>.error e
  | .ok (g,q)=>
   if tkIs l q 4 [44]then U1 l n g (q+1)
   else
    match BK l 4 [93] q with
    | .error e=>.error e
    | .ok r=>.ok (g,r)
theorem UD(l:List Tk):∀ (n:Nat) (f:Fld) (p:Nat),1<=n->KL l n f p=(match U1 l n f (p+1)with | .error e=>.error e | .ok (g,r)=>match BK l 4 [59] r with | .error e=>.error e | .ok s=>.ok (g,s))\/n+p<l.length+1
 | 0,_,_,h=>by omega
 | n+1,f,p,_=>by
  rw[KL,U1]
  cases h1:CW l f (p+1)with
  | error e=>exact .inl rfl
  | ok x=>
   obtain⟨g,q⟩:=x
   have h2:=JS h1
   dsimp only
   split
   ·rename_i h3
    have h4:=B7 h3
    rcases Nat.eq_zero_or_pos n with h0 | h0
    ·right
     omega
    ·rcases UD l n g q h0 with h5 | h5
     ·exact .inl h5
     ·right
      omega
   ·left
    cases BK l 4 [93] q<;>rfl
end Go.Proofs.YtgcphgdkddihcaaGreatDoor
