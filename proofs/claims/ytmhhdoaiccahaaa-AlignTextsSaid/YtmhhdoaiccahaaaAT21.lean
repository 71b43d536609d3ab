/- Part 21. Conditions: as each theorem says. -/
import Derived.Test.YtmhhdoaiccahaaaAT20
import Derived.Test.YtmhhdoaiccahaaaProg
import Derived.ChangeArms
import Derived.Deep.Slices
import Derived.Deep.Fields
import Derived.ChangeSame
import Derived.ProofKit
import Derived.OpenShut
import Derived.Carry
set_option maxRecDepth 100000
namespace Go.Proofs.Ytmhhdoaiccahaaa
open Go.RowKit
theorem PY{p q:Sp}:D1 Try.prog .neq 34 (.agg #[.int .i64 p.1,.int .i64 p.2.1,.int .i64 p.2.2]) (.agg #[.int .i64 q.1,.int .i64 q.2.1,.int .i64 q.2.2]) (.bool (!decide (p=q))):=by
 have h:=QG (P:=Try.prog) (t:=34) (cs:=[.int .i64 p.1,.int .i64 p.2.1,.int .i64 p.2.2]) (ds:=[.int .i64 q.1,.int .i64 q.2.1,.int .i64 q.2.2]) (by kernel_rfl) (by kernel_rfl) (by kernel_rfl) (II (ks:=[false,false,false]) (by kernel_rfl) (.int _ _ _ (.int _ _ _ (.int _ _ _ .nil))))
 have e:JF ([Value.int .i64 p.1,Value.int .i64 p.2.1,Value.int .i64 p.2.2]=[Value.int .i64 q.1,Value.int .i64 q.2.1,Value.int .i64 q.2.2])=decide (p=q):=by
  have h1:([Value.int .i64 p.1,Value.int .i64 p.2.1,Value.int .i64 p.2.2]=[Value.int .i64 q.1,Value.int .i64 q.2.1,Value.int .i64 q.2.2])↔p=q:=by
   constructor
   ·intro h
    injection h with h1 h2
    injection h1 with _ h1
    injection h2 with h2 h3
    injection h2 with _ h2
    injection h3 with h3 _
    injection h3 with _ h3
    exact Prod.ext h1 (Prod.ext h2 h3)
   ·rintro rfl
    rfl
  by_cases hp:p=q
  ·rw[decide_eq_true hp]
   simp[JF,h1,hp]
  ·rw[decide_eq_false hp]
   simp[JF,h1,hp]
 rwa [e]at h
theorem NK{a b:List Sp}{k:Nat}{p q:Sp}(h:a.take k=b.take k)(hp:a[k]?=some p)(hq:b[k]?=some q):a.take (k+1)=b.take (k+1)↔p=q:=by
 rw[List.take_add_one,List.take_add_one,h,hp,hq]
 simp
theorem J9(a b:List Sp)(ha:a.length<=10000000)(hb:b.length<=10000000):EF Try.prog [] 7 [.one (H9 a),.one (H9 b)] (.part (bP (decide (a=b)))):=by
 refine AU 26 Try.func7 rfl rfl rfl fun w D=>?_
 try refine A1 ?_
 refine A0 (A7 rfl rfl rfl rfl rfl .nil) ?_
 try refine A1 ?_
 refine A0 (A5 rfl rfl rfl rfl rfl (A3 rfl rfl rfl (AO rfl (kn rfl) sle_25) (A5 rfl rfl rfl rfl rfl (A3 rfl rfl rfl (AO rfl (kn rfl) sle_28) (A3 rfl rfl rfl (A4 rfl (kn rfl) (kn rfl) I6) .nil))))) ?_
 try refine A1 ?_
 refine AC rfl (fun h=>?_) (fun h=>?_)
 ·try refine A1 ?_
  refine A0 (A7 rfl rfl rfl rfl rfl .nil) ?_
  try refine A1 ?_
  exact AM rfl rfl (.tmp (kn rfl) (.nil)) (IA (decide_eq_false fun e=>by subst e;simp at h).symm) rfl
 have hl:a.length=b.length:=by
  simp only[Bool.not_eq_false',decide_eq_true_eq]at h
  omega
 try refine A1 ?_
 refine A0 (A5 rfl rfl rfl rfl rfl (A3 rfl rfl rfl (AO rfl (kn rfl) sle_25) (A5 rfl rfl rfl rfl rfl .nil))) ?_
 try refine A1 ?_
 refine B7 (ι:={ i:Nat // i<=a.length/\a.take i=b.take i })
  (fun i=>[(1,.part (.one (H9 b))),(12,.part (.one (H9 a))),(13,zI (a.length:Int)),(14,zI (i.1:Int))])
  (fun _=>[]) (fun _=>[]) (fun i=>a.length-i.1) ⟨0,Nat.zero_le _,rfl⟩
  (fun K=>AE ⟨s_t,s_t,s_t,s_t,trivial⟩ trivial trivial) ?_
 rintro⟨i,hi,ht⟩
 dsimp only at hi ht ⊢
 try refine A1 ?_
 refine A0 (A3 rfl rfl rfl (A4 rfl (kn rfl) (kn rfl) B9) .nil) ?_
 try refine A1 ?_
 refine AC rfl (fun h=>?_) (fun h=>?_)
 ·have hlt:=ltd h
  obtain⟨p,hp⟩:∃ p,a[i]?=some p:=⟨_,List.getElem?_eq_getElem hlt⟩
  obtain⟨q,hq⟩:∃ q,b[i]?=some q:=⟨_,List.getElem?_eq_getElem (by omega)⟩
  have he:=NK ht hp hq
  try refine A1 ?_
  refine AG ?_
  refine AI ?_
  refine AJ (AH rfl (kn rfl) (kn rfl) (by omega) hp F1 sle_25 esz_25 rfl) ?_
  refine AJ (BK rfl (kn rfl) agg_31 sz_31) ?_
  refine DM 6 [.is (.int .i64 0),.is (.int .i64 0),.is (.int .i64 0)] rfl rfl rfl rfl zr_31 (fun w D M V=>⟨rfl,fun j x v h1 h2=>DE _ h1 h2 rfl⟩) rfl rfl rfl rfl ?_
  refine B5 ?_
  refine CS rfl rfl rfl (kn rfl) rfl (kn rfl) rfl rfl sz_31 ?_
  refine AA ?_
  try refine A1 ?_
  refine C2 BP (by kernel_rfl) (A3 rfl rfl rfl (G5 (ds:=[_,_,_]) 3 rfl (kn rfl) rfl rfl agg_31 sz_31 rfl) (A5 rfl rfl rfl rfl rfl (A5 rfl rfl rfl rfl rfl (A3 rfl rfl rfl (AH rfl (kn rfl) (kn rfl) (by omega) hq F1 sle_28 esz_28 rfl) (A3 rfl rfl rfl (BK rfl (kn rfl) agg_34 sz_34) (A3 rfl rfl rfl (RF (cs:=[.int .i64 p.1,.int .i64 p.2.1,.int .i64 p.2.2]) (ds:=[.int .i64 q.1,.int .i64 q.2.1,.int .i64 q.2.2]) rfl (kn rfl) (kn rfl) PY) .nil)))))) ?_
  try refine A1 ?_
  refine AC rfl (fun h1=>?_) (fun h1=>?_)
  ·try refine A1 ?_
   refine A0 (A7 rfl rfl rfl rfl rfl .nil) ?_
   try refine A1 ?_
   exact AM rfl rfl (.tmp (kn rfl) (.nil)) (IA (decide_eq_false fun e=>by subst e;have e1:=hp.symm.trans hq;injection e1 with e1;simp[e1]at h1).symm) rfl
  have h2:p=q:=by simpa using h1
  try refine A1 ?_
  refine A0 (A3 rfl rfl rfl (A4 rfl (kn rfl) (kn rfl) (A9 (by first | omega | (dsimp only;omega)))) (A5 rfl rfl rfl rfl rfl .nil)) ?_
  try refine A1 ?_
  refine AF ⟨i+1,by omega,he.2 h2⟩ (by dsimp only;omega) (fun K=>AE ⟨s_t,s_t,s_t,s_t,trivial⟩ trivial trivial)
 rw[List.take_of_length_le (ltf h),List.take_of_length_le (by have:=ltf h;omega)]at ht
 try refine A1 ?_
 refine A0 (A7 rfl rfl rfl rfl rfl .nil) ?_
 try refine A1 ?_
 exact AM rfl rfl (.tmp (kn rfl) (.nil)) (IA (decide_eq_true ht).symm) rfl
theorem SF:BQ (stA (nA [[97],[98]]) (nB [[97],[98]] [[98],[99]]))=[(3,0,0),(1,1,0),(4,2,1)]:=by
 have e1:nA [[97],[98]]=[0,1]:=by decide +kernel
 have e2:nB [[97],[98]] [[98],[99]]=[1,2]:=by decide +kernel
 have h1:edL [0,1] [1,2]=2:=by simp[JR,O0,NY]
 have h2:stL [0,1] [1,2]=[2,1,3]:=by simp[K8,JR,O0,NY,LB,QT]
 rw[e1,e2]
 unfold stA BC
 rw[h1,if_neg (by decide),h2]
 decide +kernel
theorem KD:EF Try.prog [] 4 [] (.part (bP true)):=by
 have h1:=JA [[97],[98]] [[98],[99]] (by decide) (by decide)
 rw[SF]at h1
 have h2:=J9 [(3,0,0),(1,1,0),(4,2,1)] [(3,0,0),(1,1,0),(4,2,1)] (by decide) (by decide)
 rw[decide_eq_true rfl]at h2
 have h3:=LX [(3,0,0),(1,1,0),(4,2,1)] (by decide)
 rw[show kpt [(3,0,0),(1,1,0),(4,2,1)]=1 by decide +kernel]at h3
 refine AU 16 Try.func4 rfl rfl rfl fun w D=>?_
 try refine A1 ?_
 refine A0 (A7 rfl rfl rfl rfl rfl .nil) ?_
 try refine A1 ?_
 refine A0 (A3 rfl rfl rfl (AD (ds:=[_,_]) [(0,_),(1,_)] rfl ⟨rfl,(kn rfl),⟨rfl,(kn rfl),trivial⟩⟩ rfl sl_22 sz_9 zr_9 (fun w D=>.cons (.cell _) (.cons (.cell _) (.nil _ _))) rfl rfl rfl rfl rfl) (A3 rfl rfl rfl (AD (ds:=[_,_]) [(0,_),(1,_)] rfl ⟨rfl,(kn rfl),⟨rfl,(kn rfl),trivial⟩⟩ rfl sl_22 sz_9 zr_9 (fun w D=>.cons (.cell _) (.cons (.cell _) (.nil _ _))) rfl rfl rfl rfl rfl) (A3 rfl rfl rfl (B6 rfl (by kernel_rfl) (h1) ⟨(kn rfl),⟨(kn rfl),trivial⟩⟩) (A7 rfl rfl rfl rfl rfl .nil)))) ?_
 try refine A1 ?_
 refine A0 (A5 rfl rfl rfl rfl rfl (A3 rfl rfl rfl (C4 (ds:=[_,_,_]) [(0,_)] rfl ⟨rfl,(kn rfl),trivial⟩ rfl pl_34 zr_34 (fun w D=>.cons (.cell _) (.cons (.cell _) (.cons (.cell _) (.nil _ _)))) rfl) (A3 rfl rfl rfl (C4 (ds:=[_,_,_]) [(0,_),(1,_)] rfl ⟨rfl,(kn rfl),⟨rfl,(kn rfl),trivial⟩⟩ rfl pl_34 zr_34 (fun w D=>.cons (.cell _) (.cons (.cell _) (.cons (.cell _) (.nil _ _)))) rfl) (A3 rfl rfl rfl (C4 (ds:=[_,_,_]) [(0,_),(1,_),(2,_)] rfl ⟨rfl,(kn rfl),⟨rfl,(kn rfl),⟨rfl,(kn rfl),trivial⟩⟩⟩ rfl pl_34 zr_34 (fun w D=>.cons (.cell _) (.cons (.cell _) (.cons (.cell _) (.nil _ _)))) rfl) (A3 rfl rfl rfl (AD (ds:=[_,_,_,_,_,_,_,_,_]) [(0,_),(1,_),(2,_)] rfl ⟨rfl,(kn rfl),⟨rfl,(kn rfl),⟨rfl,(kn rfl),trivial⟩⟩⟩ rfl sl_28 sz_34 zr_34 (fun w D=>.cons (.cell _) (.cons (.cell _) (.cons (.cell _) (.cons (.cell _) (.cons (.cell _) (.cons (.cell _) (.cons (.cell _) (.cons (.cell _) (.cons (.cell _) (.nil _ _)))))))))) rfl rfl rfl rfl rfl) (A3 rfl rfl rfl (B6 rfl (by kernel_rfl) (h2) ⟨(kn rfl),⟨(kn rfl),trivial⟩⟩) (A5 rfl rfl rfl rfl rfl (Walk.gd _ rfl rfl rfl (fun h=>A6 rfl (kn rfl)) (Walk.gd _ rfl rfl rfl (fun h=>B6 rfl (by kernel_rfl) (h3) ⟨(A2 rfl h),trivial⟩) (Walk.gd _ rfl rfl rfl (fun h=>A4 rfl (A2 rfl h) (kn rfl) B4) (A3 rfl rfl rfl (BH rfl (kn rfl) (fun hb=>A2 rfl hb)) (A7 rfl rfl rfl rfl rfl .nil)))))))))))) ?_
 try refine A1 ?_
 exact AM rfl rfl (.tmp (kn rfl) (.nil)) (IA rfl) rfl
theorem Q8(l:List Int)(h:K3 l):kpt (BQ l)=nK l:=by
 induction l using K1 with
 | h0=>rfl
 | h1 l k ih=>
  have h0:=ih fun z hz=>h z (by simp[hz])
  rw[IB,I4]
  unfold kpt at h0 ⊢
  rw[List.countP_append,h0]
  congr 1
  rcases h k (by simp)with rfl | rfl | rfl<;>rfl
theorem cXY{l:List Int}{i:Nat}{k:Int}(h:l[i]?=some k):cX (l.take (i+1))=cX (l.take i)+(if k=3 then 0 else 1)/\cY (l.take (i+1))=cY (l.take i)+(if k=2 then 0 else 1)/\l.drop i=k::l.drop (i+1):=by
 have hi:i<l.length:=(List.getElem?_eq_some_iff.1 h).1
 rw[List.take_add_one,h]
 refine⟨GH _ _,GL _ _,?_⟩
 rw[List.drop_eq_getElem_cons hi]
 rw[List.getElem?_eq_getElem hi]at h
 rw[Option.some.inj h]
theorem OU{c:Bool}{i:Nat}(h:(c&&decide ((0:Int)<(i:Int)))=true):0<i:=by have:=of_decide_eq_true (gr h);omega
set_option maxHeartbeats 2000000 in
theorem ML(a b:List Tx):EF Try.prog [] 3 [.one (txD a),.one (txD b)] (.part (bP true)):=by
 refine AU 119 Try.func3 rfl rfl rfl fun w D=>?_
 try refine A1 ?_
 refine A0 (A7 rfl rfl rfl rfl rfl .nil) ?_
 try refine A1 ?_
 refine A0 (A3 rfl rfl rfl (B6 rfl (by kernel_rfl) (KD) trivial) (A3 rfl rfl rfl (H1 rfl (kn rfl)) .nil)) ?_
 try refine A1 ?_
 refine KW ?_
 try refine A1 ?_
 refine A0 (A5 rfl rfl rfl rfl rfl (A3 rfl rfl rfl (B6 rfl (by kernel_rfl) (L6 a 60 40 (by decide)) ⟨(kn rfl),⟨(kn rfl),⟨(kn rfl),trivial⟩⟩⟩) (A5 rfl rfl rfl rfl rfl (Walk.gd _ rfl rfl rfl (fun h=>A6 rfl (kn rfl)) (Walk.gd _ rfl rfl rfl (fun h=>B6 rfl (by kernel_rfl) (L6 b 60 40 (by decide)) ⟨(A2 rfl h),⟨(kn rfl),⟨(kn rfl),trivial⟩⟩⟩) (A3 rfl rfl rfl (IK rfl (kn rfl) (fun hb=>A2 rfl hb)) .nil)))))) ?_
 try refine A1 ?_
 refine AC rfl (fun h1=>?_) (fun h1=>?_)
 ·try refine A1 ?_
  refine A0 (A7 rfl rfl rfl rfl rfl .nil) ?_
  try refine A1 ?_
  exact AM rfl rfl (.tmp (kn rfl) (.nil)) (Imp.refl _) rfl
 simp only[Bool.or_eq_false_iff]at h1
 have ha:=J6 h1.1
 have hb:=J6 h1.2
 have ht1:=JA a b (by omega) (by omega)
 have ht2:=J8 a b (by omega) (by omega)
 have hal:=FQ a
 have hbl:=FW a b
 have hSl:=KZ (nA a) (nB a b)
 have hsl:=EL (nA a) (nB a b)
 have hK3:=QX (nA a) (nB a b)
 have hNP:=R6 (nA a) (nB a b)
 have hne:edL (nA a) (nB a b)<=400:=by have:=RT (nA a) (nB a b);omega
 have hway:mvs (stA (nA a) (nB a b)) (nA a,nB a b)=some ([],[]):=QF (by rw[N3 hne];exact FX _ _ _ (Nat.le_refl _))
 have hst:=fun{x y:Nat} {p:Int} {s t:Tx}=>MX (a:=a) (b:=b) (x:=x) (y:=y) (p:=p) (s:=s) (t:=t)
 generalize stA (nA a) (nB a b)=S at ht1 ht2 hSl hK3 hNP hway
 generalize nA a=A at hal hsl hway hst hSl
 generalize nB a b=B at hbl hsl hway hst hSl
 have hSn:S.length<=120:=by omega
 have hol:=CQ S
 have hsa:=J9 (BQ S) (BQ S) (by omega) (by omega)
 rw[decide_eq_true rfl]at hsa
 have hkp:=LX (BQ S) (by omega)
 rw[Q8 S hK3]at hkp
 try refine A1 ?_
 refine A0 (A5 rfl rfl rfl rfl rfl (A5 rfl rfl rfl rfl rfl (A3 rfl rfl rfl (B6 rfl (by kernel_rfl) (ht1) ⟨(kn rfl),⟨(kn rfl),trivial⟩⟩) (A7 rfl rfl rfl rfl rfl .nil)))) ?_
 try refine A1 ?_
 refine A0 (A5 rfl rfl rfl rfl rfl (A5 rfl rfl rfl rfl rfl (A5 rfl rfl rfl rfl rfl (A3 rfl rfl rfl (B6 rfl (by kernel_rfl) (ht2) ⟨(kn rfl),⟨(kn rfl),trivial⟩⟩) (A3 rfl rfl rfl (B6 rfl (by kernel_rfl) (hsa) ⟨(kn rfl),⟨(kn rfl),trivial⟩⟩) (A3 rfl rfl rfl (H1 rfl (kn rfl)) .nil)))))) ?_
 try refine A1 ?_
 refine KW ?_
 try refine A1 ?_
 refine A0 (A7 rfl rfl rfl rfl rfl (A7 rfl rfl rfl rfl rfl (A7 rfl rfl rfl rfl rfl .nil))) ?_
 try refine A1 ?_
 refine A0 (A5 rfl rfl rfl rfl rfl (A3 rfl rfl rfl (AO rfl (kn rfl) sle_25) (A5 rfl rfl rfl rfl rfl .nil))) ?_
 try refine A1 ?_
 rw[hol]
 refine B7 (ι:={ i:Nat // i<=S.length/\mvs (S.drop i) (A.drop (cX (S.take i)),B.drop (cY (S.take i)))=some ([],[])/\cX (S.take i)<=A.length/\cY (S.take i)<=B.length })
  (fun i=>[(0,.part (.one (txD a))),(1,.part (.one (txD b))),(5,.part (.one (H9 (BQ S)))),(6,zI (cX (S.take i.1):Int)),(7,zI (cY (S.take i.1):Int)),(8,zI (nK (S.take i.1):Int)),(28,.part (.one (H9 (BQ S)))),(29,zI (S.length:Int)),(30,zI (i.1:Int))])
  (fun _=>[]) (fun _=>[]) (fun i=>S.length-i.1) ⟨0,Nat.zero_le _,hway,Nat.zero_le _,Nat.zero_le _⟩
  (fun K=>AE ⟨s_t,s_t,s_t,s_t,s_t,s_t,s_t,s_t,s_t,trivial⟩ trivial trivial) ?_
 rintro⟨i,hi,hm,hx,hy⟩
 dsimp only at hi hm hx hy ⊢
 have hkl:=SI (S.take i)
 rw[List.length_take]at hkl
 try refine A1 ?_
 refine A0 (A3 rfl rfl rfl (A4 rfl (kn rfl) (kn rfl) B9) .nil) ?_
 try refine A1 ?_
 refine AC rfl (fun h=>?_) (fun h=>?_)
 ·have hlt:=ltd h
  obtain⟨k,hk⟩:∃ k,S[i]?=some k:=⟨_,List.getElem?_eq_getElem hlt⟩
  have hk3:=hK3 k (List.mem_of_getElem? hk)
  have hp:=K5 hk
  obtain⟨hcx,hcy,hdr⟩:=cXY hk
  have hnk:=Q7 hk
  rw[hdr]at hm
  obtain⟨m1,m2,m3,m4⟩:=PC hm
  rw[<- hcx,<- hcy]at m1
  obtain⟨q,hq⟩:∃ q,0<i->(BQ S)[((i:Int)-1).toNat]?=some q/\(q.1=4->S[i-1]?=some 3):=by
   refine⟨(BQ S).getD (i-1) (0,0,0),fun h0=>?_⟩
   obtain⟨z,hz⟩:∃ z,S[i-1]?=some z:=⟨_,List.getElem?_eq_getElem (by omega)⟩
   have hz3:=hK3 z (List.mem_of_getElem? hz)
   have:=K5 hz
   rw[show((i:Int)-1).toNat=i-1 by omega,List.getD_eq_getElem?_getD,this]
   refine⟨rfl,fun h4=>?_⟩
   rw[hz]
   rcases hz3 with rfl | rfl | rfl
   ·cases h4
   ·cases h4
   ·rfl
  have hno:0<i->q.1=4->kdS k=3->False:=fun h0 h4 h5=>by
   have h6:=(hq h0).2 h4
   refine hNP (i-1) h6 ?_
   rw[show i-1+1=i by omega,hk]
   rcases hk3 with rfl | rfl | rfl
   ·cases h5
   ·rfl
   ·cases h5
  generalize hcX:cX (S.take i)=x at hp hcx hx m1 m2 m3 m4 ⊢
  generalize hcY:cY (S.take i)=y at hp hcy hy m1 m2 m3 m4 ⊢
  have hb12:(!decide ((x:Int)=(x:Int)) || !decide ((y:Int)=(y:Int))||(decide ((0:Int)<(i:Int))&&decide (q.1=4)&&decide (kdS k=3)))=false:=by
   rw[decide_eq_true rfl,decide_eq_true rfl]
   cases hd:(decide ((0:Int)<(i:Int))&&decide (q.1=4)&&decide (kdS k=3))with
   | false=>rfl
   | true=>
    simp only[Bool.and_eq_true,decide_eq_true_eq]at hd
    exact(hno (by omega) hd.1.2 hd.2).elim
  try refine A1 ?_
  refine AG ?_
  refine AI ?_
  refine AJ (AH rfl (kn rfl) (kn rfl) (by omega) hp F1 sle_25 esz_25 rfl) ?_
  refine AJ (BK rfl (kn rfl) agg_31 sz_31) ?_
  refine DM 10 [.is (.int .i64 0),.is (.int .i64 0),.is (.int .i64 0)] rfl rfl rfl rfl zr_31 (fun w D M V=>⟨rfl,fun j x v h1 h2=>DE _ h1 h2 rfl⟩) rfl rfl rfl rfl ?_
  refine B5 ?_
  refine CS rfl rfl rfl (kn rfl) rfl (kn rfl) rfl rfl sz_31 ?_
  refine AA ?_
  try refine A1 ?_
  refine A0 (A3 rfl rfl rfl (AQ rfl (kn rfl) off_31_1) (A3 rfl rfl rfl (AP rfl (kn rfl) rfl rfl one_3) (A5 rfl rfl rfl rfl rfl (A3 rfl rfl rfl (A4 rfl (kn rfl) (kn rfl) I6) (A5 rfl rfl rfl rfl rfl (Walk.gd _ rfl rfl rfl (fun h=>AQ rfl (kn rfl) off_31_2) (Walk.gd _ rfl rfl rfl (fun h=>AP rfl (A2 rfl h) rfl rfl one_3) (Walk.gd _ rfl rfl rfl (fun h=>A6 rfl (kn rfl)) (Walk.gd _ rfl rfl rfl (fun h=>A4 rfl (A2 rfl h) (A2 rfl h) I6) (A3 rfl rfl rfl (IK rfl (kn rfl) (fun hb=>A2 rfl hb)) (A5 rfl rfl rfl rfl rfl (Walk.gd _ rfl rfl rfl (fun h=>A6 rfl (kn rfl)) (Walk.gd _ rfl rfl rfl (fun h=>A4 rfl (A2 rfl h) (kn rfl) E4) (Walk.gd _ rfl rfl rfl (fun h=>A6 rfl (A2 rfl h)) (Walk.gd _ rfl rfl rfl (fun h=>A6 rfl (kn rfl)) (Walk.gd _ rfl rfl rfl (fun h=>A6 rfl (kn rfl)) (Walk.gd _ rfl rfl rfl (fun h=>A4 rfl (A2 rfl h) (kn rfl) (AN (by first | omega | (dsimp only;omega)))) (Walk.gd _ rfl rfl rfl (fun h=>AH rfl (A2 rfl h) (A2 rfl h) (by have:=OU h;omega) (hq (OU h)).1 F1 sle_25 esz_25 rfl) (Walk.gd _ rfl rfl rfl (fun h=>JO rfl (A2 rfl h) off_31_0) (Walk.gd _ rfl rfl rfl (fun h=>A8 rfl (A2 rfl h) one_3) (Walk.gd _ rfl rfl rfl (fun h=>A4 rfl (A2 rfl h) (kn rfl) B4) (Walk.gd _ rfl rfl rfl (fun h=>BH rfl (A2 rfl h) (fun hb=>A2 rfl (gb h hb))) (Walk.gd _ rfl rfl rfl (fun h=>A6 rfl (A2 rfl h)) (Walk.gd _ rfl rfl rfl (fun h=>AQ rfl (kn rfl) off_31_0) (Walk.gd _ rfl rfl rfl (fun h=>AP rfl (A2 rfl h) rfl rfl one_3) (Walk.gd _ rfl rfl rfl (fun h=>A4 rfl (A2 rfl h) (kn rfl) B4) (Walk.gd _ rfl rfl rfl (fun h=>BH rfl (A2 rfl h) (fun hb=>A2 rfl (gb h hb))) (A3 rfl rfl rfl (IK rfl (kn rfl) (fun hb=>A2 rfl hb)) .nil)))))))))))))))))))))))))))) ?_
  try refine A1 ?_
  refine AC rfl (fun h1=>absurd (hb12.symm.trans h1) (by decide)) (fun _=>?_)
  try refine A1 ?_
  refine A0 (A3 rfl rfl rfl (AQ rfl (kn rfl) off_31_0) (A3 rfl rfl rfl (AP rfl (kn rfl) rfl rfl one_3) .nil)) ?_
  try refine A1 ?_
  refine A0 (A3 rfl rfl rfl (A4 rfl (kn rfl) (kn rfl) B4) (A7 rfl rfl rfl rfl rfl .nil)) ?_
  try refine A1 ?_
  rcases hk3 with rfl | rfl | rfl
  ·obtain⟨p,hpa,hpb⟩:=m4 rfl
   have hxa:=m2 (by decide)
   have hyb:=m3 (by decide)
   obtain⟨s,hs⟩:∃ s,a[x]?=some s:=⟨_,List.getElem?_eq_getElem (by omega)⟩
   obtain⟨t,ht⟩:∃ t,b[y]?=some t:=⟨_,List.getElem?_eq_getElem (by omega)⟩
   obtain rfl:=hst hpa hpb hs ht
   have hb17:(decide ((a.length:Int)<=(x:Int))||decide ((b.length:Int)<=(y:Int)) || !decide (s=s))=false:=by
    rw[decide_eq_false (by omega),decide_eq_false (by omega),decide_eq_true rfl]
    rfl
   rw[if_neg (by decide)]at hcx hcy
   rw[if_pos rfl]at hnk
   refine G8 ?_
   try refine A1 ?_
   refine C2 BP (by kernel_rfl) (A5 rfl rfl rfl rfl rfl (A5 rfl rfl rfl rfl rfl (A3 rfl rfl rfl (AO rfl (kn rfl) sle_22) (A3 rfl rfl rfl (A4 rfl (kn rfl) (kn rfl) EK) (A5 rfl rfl rfl rfl rfl (Walk.gd _ rfl rfl rfl (fun h=>A6 rfl (kn rfl)) (Walk.gd _ rfl rfl rfl (fun h=>A6 rfl (kn rfl)) (Walk.gd _ rfl rfl rfl (fun h=>AO rfl (A2 rfl h) sle_22) (Walk.gd _ rfl rfl rfl (fun h=>A4 rfl (A2 rfl h) (A2 rfl h) EK) (A3 rfl rfl rfl (IK rfl (kn rfl) (fun hb=>A2 rfl hb)) (A5 rfl rfl rfl rfl rfl (Walk.gd _ rfl rfl rfl (fun h=>A6 rfl (kn rfl)) (Walk.gd _ rfl rfl rfl (fun h=>A6 rfl (kn rfl)) (Walk.gd _ rfl rfl rfl (fun h=>AH rfl (A2 rfl h) (A2 rfl h) (by omega) hs E9 sle_22 esz_22 rfl) (Walk.gd _ rfl rfl rfl (fun h=>A8 rfl (A2 rfl h) one_9) (Walk.gd _ rfl rfl rfl (fun h=>A6 rfl (kn rfl)) (Walk.gd _ rfl rfl rfl (fun h=>A6 rfl (kn rfl)) (Walk.gd _ rfl rfl rfl (fun h=>AH rfl (A2 rfl h) (A2 rfl h) (by omega) ht E9 sle_22 esz_22 rfl) (Walk.gd _ rfl rfl rfl (fun h=>A8 rfl (A2 rfl h) one_9) (Walk.gd _ rfl rfl rfl (fun h=>A4 rfl (A2 rfl h) (A2 rfl h) (P0)) (A3 rfl rfl rfl (IK rfl (kn rfl) (fun hb=>A2 rfl hb)) .nil))))))))))))))))))))) ?_
   try refine A1 ?_
   refine AC rfl (fun h1=>absurd (hb17.symm.trans h1) (by decide)) (fun _=>?_)
   try refine A1 ?_
   refine A0 (A5 rfl rfl rfl rfl rfl (A3 rfl rfl rfl (A4 rfl (kn rfl) (kn rfl) (A9 (by first | omega | (dsimp only;omega)))) (A5 rfl rfl rfl rfl rfl (A3 rfl rfl rfl (A4 rfl (kn rfl) (kn rfl) (A9 (by first | omega | (dsimp only;omega)))) (A5 rfl rfl rfl rfl rfl (A3 rfl rfl rfl (A4 rfl (kn rfl) (kn rfl) (A9 (by first | omega | (dsimp only;omega)))) (A7 rfl rfl rfl rfl rfl (A7 rfl rfl rfl rfl rfl (A7 rfl rfl rfl rfl rfl .nil))))))))) ?_
   try refine A1 ?_
   try refine A1 ?_
   refine A0 (A3 rfl rfl rfl (A4 rfl (kn rfl) (kn rfl) (A9 (by first | omega | (dsimp only;omega)))) (A5 rfl rfl rfl rfl rfl .nil)) ?_
   try refine A1 ?_
   refine AF ⟨i+1,hlt,m1,by rw[hcx];omega,by rw[hcy];omega⟩ (by dsimp only;omega) (fun K=>AE ⟨s_t,s_t,s_t,s_z rfl (by dsimp only;rw[hcx];rfl),s_z rfl (by dsimp only;rw[hcy];rfl),s_z rfl (by dsimp only;rw[hnk];rfl),s_t,s_t,s_t,trivial⟩ trivial trivial)
  ·have hxa:=m2 (by decide)
   rw[if_neg (by decide)]at hcx hnk
   rw[if_pos rfl]at hcy
   refine KW ?_
   try refine A1 ?_
   refine A0 (A3 rfl rfl rfl (A4 rfl (kn rfl) (kn rfl) B4) (A7 rfl rfl rfl rfl rfl .nil)) ?_
   try refine A1 ?_
   refine G8 ?_
   try refine A1 ?_
   refine A0 (A5 rfl rfl rfl rfl rfl (A3 rfl rfl rfl (A4 rfl (kn rfl) (kn rfl) (A9 (by first | omega | (dsimp only;omega)))) (A7 rfl rfl rfl rfl rfl .nil))) ?_
   try refine A1 ?_
   try refine A1 ?_
   refine A0 (A3 rfl rfl rfl (A4 rfl (kn rfl) (kn rfl) (A9 (by first | omega | (dsimp only;omega)))) (A5 rfl rfl rfl rfl rfl .nil)) ?_
   try refine A1 ?_
   refine AF ⟨i+1,hlt,m1,by rw[hcx];omega,by rw[hcy];omega⟩ (by dsimp only;omega) (fun K=>AE ⟨s_t,s_t,s_t,s_z rfl (by dsimp only;rw[hcx];rfl),s_z rfl (by dsimp only;rw[hcy];rfl),s_z rfl (by dsimp only;rw[hnk];rfl),s_t,s_t,s_t,trivial⟩ trivial trivial)
  ·have hyb:=m3 (by decide)
   rw[if_neg (by decide)]at hcy hnk
   rw[if_pos rfl]at hcx
   refine KW ?_
   try refine A1 ?_
   refine A0 (A3 rfl rfl rfl (A4 rfl (kn rfl) (kn rfl) B4) (A7 rfl rfl rfl rfl rfl .nil)) ?_
   try refine A1 ?_
   refine KW ?_
   try refine A1 ?_
   refine A0 (A3 rfl rfl rfl (A4 rfl (kn rfl) (kn rfl) B4) (A7 rfl rfl rfl rfl rfl .nil)) ?_
   try refine A1 ?_
   refine G8 ?_
   try refine A1 ?_
   refine A0 (A5 rfl rfl rfl rfl rfl (A3 rfl rfl rfl (A4 rfl (kn rfl) (kn rfl) (A9 (by first | omega | (dsimp only;omega)))) (A7 rfl rfl rfl rfl rfl .nil))) ?_
   try refine A1 ?_
   try refine A1 ?_
   refine A0 (A3 rfl rfl rfl (A4 rfl (kn rfl) (kn rfl) (A9 (by first | omega | (dsimp only;omega)))) (A5 rfl rfl rfl rfl rfl .nil)) ?_
   try refine A1 ?_
   refine AF ⟨i+1,hlt,m1,by rw[hcx];omega,by rw[hcy];omega⟩ (by dsimp only;omega) (fun K=>AE ⟨s_t,s_t,s_t,s_z rfl (by dsimp only;rw[hcx];rfl),s_z rfl (by dsimp only;rw[hcy];rfl),s_z rfl (by dsimp only;rw[hnk];rfl),s_t,s_t,s_t,trivial⟩ trivial trivial)
 rw[List.drop_eq_nil_of_le (ltf h)]at hm
 have hme:=RI hm
 rw[List.take_of_length_le (ltf h)]at hx hy hme ⊢
 try refine A1 ?_
 refine A0 (A5 rfl rfl rfl rfl rfl (A5 rfl rfl rfl rfl rfl (A3 rfl rfl rfl (AO rfl (kn rfl) sle_22) (A3 rfl rfl rfl (A4 rfl (kn rfl) (kn rfl) B4) (A5 rfl rfl rfl rfl rfl (Walk.gd _ rfl rfl rfl (fun h=>A6 rfl (kn rfl)) (Walk.gd _ rfl rfl rfl (fun h=>A6 rfl (kn rfl)) (Walk.gd _ rfl rfl rfl (fun h=>AO rfl (A2 rfl h) sle_22) (Walk.gd _ rfl rfl rfl (fun h=>A4 rfl (A2 rfl h) (A2 rfl h) B4) (A3 rfl rfl rfl (BH rfl (kn rfl) (fun hb=>A2 rfl hb)) (A5 rfl rfl rfl rfl rfl (Walk.gd _ rfl rfl rfl (fun h=>A6 rfl (kn rfl)) (Walk.gd _ rfl rfl rfl (fun h=>B6 rfl (by kernel_rfl) (hkp) ⟨(A2 rfl h),trivial⟩) (Walk.gd _ rfl rfl rfl (fun h=>A6 rfl (kn rfl)) (Walk.gd _ rfl rfl rfl (fun h=>A4 rfl (A2 rfl h) (A2 rfl h) B4) (A3 rfl rfl rfl (BH rfl (kn rfl) (fun hb=>A2 rfl hb)) (A7 rfl rfl rfl rfl rfl .nil))))))))))))))))) ?_
 try refine A1 ?_
 have hfin:(decide ((cX S:Int)=(a.length:Int))&&decide ((cY S:Int)=(b.length:Int))&&decide ((nK S:Int)=(nK S:Int)))=true:=by
  rw[decide_eq_true (by omega),decide_eq_true (by omega),decide_eq_true rfl]
  rfl
 exact AM rfl rfl (.tmp (kn rfl) (.nil)) (IA hfin) rfl
section
theorem N2{α:Type}{f:α->List Dat}{k:Nat}(hk:∀ a,(f a).length=k){qs:List α}{i r:Nat}{a:α}(ha:qs[i]?=some a)(hr:r<k):(qs.flatMap f)[i*k+r]?=(f a)[r]?:=by
 have h:=FO hk qs i a ha
 rw[<- h,List.getElem?_take,if_pos hr,List.getElem?_drop]
def Old(w:World):Nat->Prop:=fun g=>g<w.heap.size
section
variable{H:Type}{enc:TypeId×Value->H}{P:Program}{w:World}{base:Nat}{spare:Nat->Bool}{held:Bool}{fuel:Nat}{t:TypeId}{cs:List Value}{x:DataW H×List MemPlace}
theorem OI{e:TypeId}(ht:P.underlying t=some (.slice e)){k:Nat}(hk0:0<k)(hke:P.cellsOf e=k){α:Type}[Inhabited α]{f:α->List Dat}(hk:∀ a,(f a).length=k){F:α->Prop}
  (elem:∀ n,n<fuel -> ∀ cs x,DataW.trod enc P w base spare held n e cs=some x -> ∃ a,Fits w (Old w) (f a) cs/\F a) (h:DataW.trod enc P w base spare held fuel t cs=some x):
  ∃ p,∃ qs:List α,∃ c,cs=[.slice p qs.length c]/\Lies w (Old w) (.row k qs.length (qs.flatMap f)) (.slice p qs.length c)/\(∀ a∈qs,F a)/\qs.length<=c/\c<=maxLen:=by
 rcases DataW.trod_slice ht h with⟨rfl,_⟩ | ⟨ad,len,cap,elems,rest,n,rfl,rfl,_,hb,hl,hm,hlen,hel,_,_⟩
 ·exact⟨none,[],0,rfl,.none _ _ _,by simp,by simp,by simp⟩
 ·rw[hke]at hel
  have hone:∀ i,i<len -> ∃ y:α×List Value,Fits w (Old w) (f y.1) y.2/\F y.1 /\ ∀ j,j<k->w.cell? (ad.add (i*k+j))=y.2[j]?:=fun i hi=>by
   have key:=hel i hi
   rw[List.getElem?_eq_getElem (by omega)]at key
   obtain⟨cs',h1,h2⟩:=Option.bind_eq_some_iff.1 key
   obtain⟨a,hF,hA⟩:=elem n (by omega) cs' _ h2
   obtain⟨_,_,hat⟩:=World.cells?_some h1
   exact⟨(a,cs'),hF,hA,fun j hj=>by rw[<- Go.Deep.add_add];exact hat j hj⟩
  obtain⟨Y,hY⟩:=Go.Deep.choose_lt (α:=α×List Value) (p:=fun i y=>Fits w (Old w) (f y.1) y.2/\F y.1 /\ ∀ j,j<k->w.cell? (ad.add (i*k+j))=y.2[j]?) hone
  have hlen':((List.range len).map fun i=>(Y i).1).length=len:=by simp
  have hget:∀ i,i<len->((List.range len).map fun i=>(Y i).1)[i]?=some (Y i).1:=fun i hi=>by rw[List.getElem?_map,List.getElem?_range hi];rfl
  refine⟨some ad,(List.range len).map fun i=>(Y i).1,cap,by rw[hlen'],?_,fun a ha=>?_,by omega,hm⟩
  ·rw[hlen']
   rcases Nat.eq_zero_or_pos len with h0 | h0
   ·subst h0
    exact .none _ _ _
   obtain⟨b,o,s⟩:=ad
   have hcell:∀ i,i<len -> ∀ j,j<k -> ∃ v,(Y i).2[j]?=some v:=fun i hi j hj=>by
    have hl':=(hY i hi).1.1
    rw[hk]at hl'
    exact⟨_,List.getElem?_eq_getElem (by omega)⟩
   obtain rfl:s=none:=by
    obtain⟨v,hv⟩:=hcell 0 h0 0 hk0
    have:=(hY 0 h0).2.2 0 hk0
    rw[hv]at this
    simpa[Addr.add]using World.cell?_spot this
   have hb':b<w.heap.size:=by
    obtain⟨v,hv⟩:=hcell 0 h0 0 hk0
    have:=(hY 0 h0).2.2 0 hk0
    rw[hv]at this
    have:=World.block_lt_of_cell? _ _ this
    simpa[Addr.add_lit]using this
   have hfl:((((List.range len).map fun i=>(Y i).1)).flatMap f).length=len*k:=by rw[E6 hk,hlen']
   refine .row k len b o cap _ (fun j=>((Y (j / k)).2[j % k]?).getD default) h0 (by omega) hfl hb' (fun j hj=>?_) fun j d hd=>?_
   ·rw[hfl]at hj
    have hi:j / k<len:=Nat.div_lt_of_lt_mul (by rw[Nat.mul_comm];exact hj)
    have hr:j % k<k:=Nat.mod_lt _ hk0
    obtain⟨v,hv⟩:=hcell _ hi _ hr
    have:=(hY _ hi).2.2 _ hr
    rw[Addr.add_lit,Nat.div_add_mod' j k]at this
    rw[this,hv]
    rfl
   ·have hj:j<len*k:=by rw[<- hfl];exact(List.getElem?_eq_some_iff.1 hd).1
    have hi:j / k<len:=Nat.div_lt_of_lt_mul (by rw[Nat.mul_comm];exact hj)
    have hr:j % k<k:=Nat.mod_lt _ hk0
    obtain⟨v,hv⟩:=hcell _ hi _ hr
    rw[<- Nat.div_add_mod' j k,N2 hk (hget _ hi) hr]at hd
    show Lies w (Old w) d (((Y (j / k)).2[j % k]?).getD default)
    rw[hv]
    exact(hY _ hi).1.2 _ d v hd hv
  ·obtain⟨i,hi,rfl⟩:=List.mem_map.1 ha
   exact(hY i (by simpa using hi)).2.1
end
end
section
open Go.ChangeShapes Go.WideShapes Go.ChangeAt Go.RowKit
section
variable{H:Type}{enc:TypeId×Value->H}{P:Program}
theorem FK(hl:laidOutB P=true){W W':World}(hb:Below W.heap.size W W'){sp:Nat->Bool}:∀ {ts:List TypeId} {vs:List Value} {ds:List (DataW H)} {ps:List MemPlace},
  (ts.all fun t=>P.readableRec t&&decide (t<P.types.size))=true->DataW.TrodAll enc P W 0 (fun _=>true) true ts vs ds ps->(∀ p∈ps,p.block<W.heap.size)->(∀ p∈ps,sp p.block=true) ->
  DataW.TrodAll enc P W' 0 sp true ts vs ds ps
 | [],_,_,_,_,h,_,_=>by
  obtain⟨rfl,rfl,rfl⟩:=trodAll_nil h
  exact trodAll_mk0
 | t::ts,_,_,_,ht,h,hlt,hsp=>by
  simp only[List.all_cons,Bool.and_eq_true,decide_eq_true_eq]at ht
  obtain⟨v,vs,d,ds,p,q,rfl,rfl,rfl,h0,hr⟩:=trodAll_cons h
  exact trodAll_cons_mk (WideElems.Trod_stays hl ht.1.1 ht.1.2 h0 (fun x hx=>hb.same (hlt x (List.mem_append_left _ hx))) (fun x hx=>hsp x (List.mem_append_left _ hx)))
   (FK hl hb ht.2 hr (fun x hx=>hlt x (List.mem_append_right _ hx)) (fun x hx=>hsp x (List.mem_append_right _ hx)))
theorem P6{f:Func}{s:ChangeSpec}{W W':World}{args:Array Value}{ds:List (DataW H)}{before:List MemPlace}
  (hl:laidOutB P=true) (ht:(f.params.toList.all fun t=>P.readableRec t&&decide (t<P.types.size))=true)
  (hvars:s.vars=[]) (hs:s.fn H (ds++[])={ results:=[.lit (.bool true)],args:=ds }) {tb:TypeId} (hres:f.resultTypes = #[tb]) (hbool:P.underlying tb=some .bool)
  (hW:DataW.Whole enc P f.params.toList s.vars false W args.toList ds [] before)
  (hA:DataW.TrodAll enc P W 0 (fun _=>true) true f.params.toList args.toList ds before) (hb:Below W.heap.size W W'):
  s.post enc P f false true false false W args (.bool true) W':=by
 have hlt:∀ p∈before,p.block<W.heap.size:=fun p hp=>hW.lt p hp
 have e1:(Value.bool true).resultList f.resultTypes.size=[Value.bool true]:=by rw[hres];rfl
 refine⟨ds,[],before,[],before,[],hW,?_,?_,?_,World.keptBut_mono (fun p hp=>⟨hp,by simpa using hp⟩) (hb.frame (· ∈ before)),fun h=>by cases h⟩
 ·rw[hs,e1,hres]
  exact trodAll_mk1 (shut_bool hbool _)
 ·rw[hs]
  exact FK hl hb ht hA hlt (fun p hp=>by simpa using hlt p hp)
 ·rw[hs,hvars]
  rfl
end
end
section
open Go.ChangeShapes Go.WideShapes Go.ChangeAt Go.RowKit
theorem M8(s:ByteArray):str s.data.toList=s:=by
 unfold str
 simp
section
variable{H:Type}{enc:TypeId×Value->H}{w:World}{base:Nat}{spare:Nat->Bool}{held:Bool}
theorem QB:Try.prog.cellsOf 9=1:=by kernel_rfl
theorem H3{r:Reach}{b0:Nat}{v:Value}{d:DataW H}{ps:List MemPlace}(hval:Value.okWide Try.prog w r b0 22 v)(h:DataW.Trod enc Try.prog w base spare held 22 v d ps):
  ∃ (p:Option Addr) (l:List Tx) (c:Nat),v=.slice p l.length c/\Lies w (Old w) (txD l) (.slice p l.length c)/\l.length<=maxLen:=by
 obtain⟨a0,len,cap,rfl⟩:=okWide_slice Try.underlying22 hval
 obtain⟨fuel,hf⟩:=h
 obtain⟨p,qs,c,e,hl,_,h1,h2⟩:=OI (f:=sD1) (F:=fun _:Tx=>True) Try.underlying22 (by omega) QB E9 (fun n hn cs x hx=>by
  obtain⟨s,e2,_,ws⟩:=DataW.trod_string Try.underlying9 hx
  refine⟨s.data.toList,?_,trivial⟩
  subst e2
  unfold sD1 sC
  rw[M8]
  exact .cons (.cell _) (.nil _ _)) hf
 simp[Value.cells]at e
 obtain⟨rfl,rfl,rfl⟩:=e
 exact⟨_,qs,_,rfl,hl,by omega⟩
end
theorem N4{P:Program}{f:FuncId}{ps:List Part}{v:Value}{w:World}{vs:List Value}(h:EF P [] f ps (.is v))(hp:PsFit w (Old w) ps vs):Calls P f vs.toArray w fun e w'=>e=.returned v/\Below w.heap.size w w':=
 (h w (Old w) vs (fun g hg=>hg) (fun _ _ h=>by cases h) hp).mono fun e w' ⟨u,y,h1,h2,h3,h4⟩=>by
  subst h2
  refine⟨?_,h3⟩
  rw[h1,VR.is_eq (h4 (fun _=>0) (fun _=>undef))]
end
end Go.Proofs.Ytmhhdoaiccahaaa
