/- Part 19. Conditions: as each theorem says. -/
import Derived.Test.YtmhhdoaiccahaaaAT18
import Derived.Test.YtmhhdoaiccahaaaProg
set_option maxRecDepth 100000
namespace Go.Proofs.Ytmhhdoaiccahaaa
open Go.RowKit
def kT(t:Tx):Value:=.string (str t)
theorem kfT:KeyF Try.prog 9 kT:=R9 str_9
theorem PI:Try.prog.underlying 50=some (.map 9 3):=by kernel_rfl
theorem SC:LP Try.prog 3=some (.int .i64 0):=by kernel_rfl
abbrev mN(l:List Tx):List (Tx×Dat):=IL 0 l
theorem N6(s:Tx)(l:List Tx):CU s (mN l)=if pos s l<l.length then some (.cell (.int .i64 ((pos s l:Nat):Int)))else none:=by
 have:=KA s l 0
 rwa [Nat.zero_add]at this
theorem R7{s:Tx}{l:List Tx}(h:¬ pos s l<l.length):EJ s (.cell (.int .i64 (l.length:Int))) (mN l)=mN (l++[s]):=by
 rw[K0 (by rw[N6,if_neg h])]
 have:=I3 s l 0
 rw[Nat.zero_add]at this
 exact this.symm
abbrev YN(v0:Value)(l:List Tx)(s:Tx)(y:IV)(B1:BL)(R1:RL):Prop:=y=RB 1003 v0 (.int .i64 ((pos s l:Nat):Int))/\B1=[]/\R1=[(1003,⟨1000000,1,(mN (CG l s)).length,mds kT (mN (CG l s)),false⟩)]
theorem YN.tidy{v0:Value}{l:List Tx}{s:Tx}(y:IV)(B1:BL)(R1:RL)(h:YN v0 l s y B1 R1):PG [] [(1003,⟨1000000,1,(mN l).length,mds kT (mN l),false⟩)] y B1 R1:=by
 obtain⟨rfl,rfl,rfl⟩:=h
 exact⟨rfl,rfl,rfl,rfl⟩
theorem N8(l:List Tx)(hl:l.length<=2000000)(s:Tx)(v0:Value):EG Try.prog [] 18 [atv 1003 v0,.part (sP s)] [] [(1003,⟨1000000,1,(mN l).length,mds kT (mN l),false⟩)] (YN v0 l s):=by
 have hg:=N6 s l
 have hpl:=IU s l
 refine JD 21 Try.func18 rfl rfl rfl fun w D bor mb=>?_
 try refine A1 ?_
 refine DB 9003 (t:=0) rfl ?_
 refine GY 0 rfl (GK _ _) ?_
 refine A0 (A7 rfl rfl rfl rfl rfl .nil) ?_
 try refine A1 ?_
 by_cases h:pos s l<l.length
 ·have e:(CU s (mN l)).getD (.cell (.int .i64 0))=.cell (.int .i64 ((pos s l:Nat):Int)):=by rw[hg,if_pos h];rfl
  have e2:(CU s (mN l)).isSome=true:=by rw[hg,if_pos h];rfl
  have hk:CG l s=l:=if_pos h
  refine A0 (A5 rfl rfl rfl rfl rfl (A5 rfl rfl rfl rfl rfl (A3 rfl rfl rfl (LH (kf:=kT) rfl (kn rfl) rfl (kn rfl) kfT PI SC rfl) (A5 rfl rfl rfl rfl rfl (A3 rfl rfl rfl (BZ rfl (kn rfl) rfl) (A3 rfl rfl rfl (BZ rfl (kn rfl) rfl) (A7 rfl rfl rfl rfl rfl (A7 rfl rfl rfl rfl rfl .nil)))))))) ?_
  try refine A1 ?_
  rw[e,e2]
  refine A0 (A5 rfl rfl rfl rfl rfl (A3 rfl rfl rfl (H1 rfl (kn rfl)) .nil)) ?_
  try refine A1 ?_
  refine KW ?_
  try refine A1 ?_
  refine A0 (A5 rfl rfl rfl rfl rfl (A7 rfl rfl rfl rfl rfl .nil)) ?_
  try refine A1 ?_
  refine N9 (t:=4) (s:=9003) rfl rfl ?_
  exact BX [] [(1003,⟨1000000,1,(mN (CG l s)).length,mds kT (mN (CG l s)),false⟩)] rfl rfl trivial ⟨by rw[hk];rfl,trivial⟩ ⟨rfl,rfl,rfl⟩
 ·have e:(CU s (mN l)).getD (.cell (.int .i64 0))=.cell (.int .i64 0):=by rw[hg,if_neg h];rfl
  have e2:(CU s (mN l)).isSome=false:=by rw[hg,if_neg h];rfl
  have hk:CG l s=l++[s]:=if_neg h
  have hlen:(mN l).length=l.length:=JT l 0
  have hp:pos s l=l.length:=by omega
  refine A0 (A5 rfl rfl rfl rfl rfl (A5 rfl rfl rfl rfl rfl (A3 rfl rfl rfl (LH (kf:=kT) rfl (kn rfl) rfl (kn rfl) kfT PI SC rfl) (A5 rfl rfl rfl rfl rfl (A3 rfl rfl rfl (BZ rfl (kn rfl) rfl) (A3 rfl rfl rfl (BZ rfl (kn rfl) rfl) (A7 rfl rfl rfl rfl rfl (A7 rfl rfl rfl rfl rfl .nil)))))))) ?_
  try refine A1 ?_
  rw[e,e2]
  refine A0 (A5 rfl rfl rfl rfl rfl (A3 rfl rfl rfl (H1 rfl (kn rfl)) .nil)) ?_
  try refine A1 ?_
  refine G8 ?_
  try refine A1 ?_
  refine A0 (A5 rfl rfl rfl rfl rfl (A3 rfl rfl rfl (RU (kf:=kT) rfl (kn rfl) rfl PI rfl) (A7 rfl rfl rfl rfl rfl .nil))) ?_
  try refine A1 ?_
  rw[hlen]
  refine AG ?_
  refine AI ?_
  refine AI ?_
  refine AI ?_
  refine RK (c:=s) (kf:=kT) rfl rfl rfl (kn rfl) rfl (kn rfl) (kn rfl) kfT PI ?_ rfl
  refine AA ?_
  try refine A1 ?_
  rw[R7 h,<- hk]
  refine A0 (A5 rfl rfl rfl rfl rfl (A7 rfl rfl rfl rfl rfl .nil)) ?_
  try refine A1 ?_
  refine N9 (t:=4) (s:=9003) rfl rfl ?_
  exact BX [] [(1003,⟨1000000,1,(mN (CG l s)).length,mds kT (mN (CG l s)),false⟩)] rfl rfl trivial ⟨rfl,trivial⟩ ⟨by rw[hp],rfl,rfl⟩
abbrev SV:Dat:=.cell (.slice none 0 0)
abbrev J2(z:Nat):Dat:=.cell (.int .i64 (z:Int))
def DV(n:Nat)(L:List (List Nat)):List Dat:=L.flatMap GD++List.replicate (n-L.length) SV
def GA(n:Nat)(l:List Nat):List Dat:=l.flatMap iD1++List.replicate (n-l.length) (J2 0)
theorem EY{α:Type}{f:α->List Dat}{g:α->Dat}(hf:∀ a,f a=[g a])(l:List α):l.flatMap f=l.map g:=by
 induction l with
 | nil=>rfl
 | cons x l ih=>rw[List.flatMap_cons,hf,ih];rfl
theorem K9{α:Type}(l:List α)(n:Nat)(z x:α)(h:l.length<n):(l++List.replicate (n-l.length) z).set l.length x=l++[x]++List.replicate (n-(l++[x]).length) z:=by
 rw[List.set_append,if_neg (Nat.lt_irrefl _),Nat.sub_self,show n-l.length=(n-(l++[x]).length)+1 by simp;omega,List.replicate_succ,List.set_cons_zero,List.append_assoc]
 rfl
theorem NC(n:Nat)(L:List (List Nat))(h:L.length<=n):(DV n L).length=n:=by
 unfold DV
 rw[List.length_append,E6 E3,List.length_replicate]
 omega
theorem OF(n:Nat)(l:List Nat)(h:l.length<=n):(GA n l).length=n:=by
 unfold GA
 rw[List.length_append,E6 PF,List.length_replicate]
 omega
theorem NW{n:Nat}{l l':List Nat}{x:Nat}(h:l.length<n)(hl:l'=l++[x]):(GA n l).set l.length (J2 x)=GA n l':=by
 subst hl
 have h0:=K9 (l.map J2) n (J2 0) (J2 x) (by simpa using h)
 unfold GA
 rw[EY (f:=iD1) (g:=J2) (fun _=>rfl),EY (f:=iD1) (g:=J2) (fun _=>rfl)]
 simpa using h0
theorem NG{n:Nat}{l l':List (List Nat)}{x:List Nat}(h:l.length<n)(hl:l'=l++[x]):(DV n l).set l.length (nsD x)=DV n l':=by
 subst hl
 have h0:=K9 (l.map nsD) n SV (nsD x) (by simpa using h)
 unfold DV
 rw[EY (f:=GD) (g:=nsD) (fun _=>rfl),EY (f:=GD) (g:=nsD) (fun _=>rfl)]
 simpa using h0
theorem MQ(l:List Nat):GA l.length l=l.flatMap iD1:=by simp[GA]
theorem MB(L:List (List Nat)):DV L.length L=L.flatMap GD:=by simp[DV]
theorem MJ{n:Nat}{l:List Nat}(h:l.length=n):Dat.row 1 n (GA n l)=nsD l:=by
 subst h
 rw[MQ]
theorem MO{n:Nat}{l:List (List Nat)}(h:l.length=n):Dat.row 1 n (DV n l)=NB l:=by
 subst h
 rw[MB]
theorem LU{α:Type}{l:List α}{i:Nat}{x:α}(h:i<l.length):(l.set i x)[i]?=some x:=by simp[h]
set_option maxHeartbeats 4000000 in
theorem RS(L:List (List Tx))(hL:Few L):EF Try.prog [] 10 [.one (HA L)] (.part (.one (NB (CV [] L)))):=by
 have hLn:=hL.n
 refine AU 45 Try.func10 rfl rfl rfl fun w D=>?_
 try refine A1 ?_
 refine A0 (A7 rfl rfl rfl rfl rfl .nil) ?_
 try refine A1 ?_
 refine AG ?_
 refine R8 1003 1000000 1 rfl rfl rfl rfl rfl rfl ?_ rfl
 refine B5 ?_
 refine AA ?_
 try refine A1 ?_
 refine PQ (t:=3) rfl fun v0=>?_
 refine DB 9003 (t:=3) rfl ?_
 refine GY 3 rfl (IP _ _) ?_
 refine AG ?_
 refine AI ?_
 refine AJ (AO rfl (kn rfl) sle_43) ?_
 refine OC 1000 rfl rfl rfl rfl (kn rfl) (kn rfl) sl_35 ap_35 zr_41 (by omega) (by omega) (show _=DV L.length [] by simp[DV]) rfl rfl ?_
 refine B5 ?_
 refine AA ?_
 try refine A1 ?_
 refine A0 (A5 rfl rfl rfl rfl rfl (A3 rfl rfl rfl (AO rfl (kn rfl) sle_43) (A5 rfl rfl rfl rfl rfl .nil))) ?_
 try refine A1 ?_
 refine B7 (ι:={ i:Nat // i<=L.length })
  (fun i=>[(3,.is v0),(9003,ET 1003 v0),(4,.own 1000),(13,.part (.one (HA L))),(14,BR (L.length:Int)),(15,BR (i.1:Int))])
  (fun _=>[]) (fun i=>[(1000,⟨41,1,L.length,DV L.length (CV [] (L.take i.1)),false⟩),(1003,⟨1000000,1,(mN (BB [] (L.take i.1))).length,mds kT (mN (BB [] (L.take i.1))),false⟩)]) (fun i=>L.length-i.1) ⟨0,by omega⟩
  (fun K=>AE ⟨s_t,s_t,s_t,s_t,s_t,s_t,trivial⟩ trivial ⟨rfl,rfl,trivial⟩) ?_
 rintro⟨i,hi⟩
 dsimp only at hi ⊢
 try refine A1 ?_
 refine A0 (A3 rfl rfl rfl (A4 rfl (kn rfl) (kn rfl) B9) .nil) ?_
 try refine A1 ?_
 refine AC rfl (fun h=>?_) (fun h=>?_)
 ·have hlt:i<L.length:=by have:=of_decide_eq_true h;omega
  obtain⟨m,hm⟩:∃ m,L[i]?=some m:=⟨_,List.getElem?_eq_getElem hlt⟩
  have hmn:=hL.each m (List.mem_of_getElem? hm)
  have hnl:(CV [] (L.take i)).length=i:=by rw[GU,List.length_take];omega
  have hol:=NC L.length (CV [] (L.take i)) (by omega)
  have hns:=I7 (L.take i) m []
  have hks:=HL (L.take i) m []
  rw[<- E8 hm]at hns hks
  have hfin:=NG (n:=L.length) (by omega) hns
  rw[hnl]at hfin
  try refine A1 ?_
  refine A0 (A5 rfl rfl rfl rfl rfl (A3 rfl rfl rfl (AH rfl (kn rfl) (kn rfl) (by omega) hm JH sle_43 esz_43 rfl) (A3 rfl rfl rfl (A8 rfl (kn rfl) one_22) (A7 rfl rfl rfl rfl rfl (A7 rfl rfl rfl rfl rfl .nil))))) ?_
  try refine A1 ?_
  refine AG ?_
  refine AI ?_
  refine AI ?_
  refine AI ?_
  refine AJ (AO rfl (kn rfl) sle_22) ?_
  refine OC 1001 rfl rfl rfl rfl (kn rfl) (kn rfl) sl_41 ap_41 zr_3 (by omega) (by omega) (show _=GA m.length [] by simp[GA]) rfl rfl ?_
  refine JJ (t:=24) rfl rfl rfl fun v1 hv1=>?_
  refine DB 9001 (t:=24) rfl ?_
  refine GY 24 rfl (IP _ _) ?_
  refine AJ (AK rfl (kn rfl) rfl (kn rfl) ⟨by omega,by omega⟩ sle_35 esz_35) ?_
  refine B8 (ds':=(DV L.length (CV [] (L.take i))).set i (.cell v1)) rfl rfl rfl (kn rfl) rfl (kn rfl) hv1 (by rw[hol];omega) sz_41 (by simp) ?_ rfl
  refine AA ?_
  try refine A1 ?_
  refine A0 (A5 rfl rfl rfl rfl rfl (A3 rfl rfl rfl (AO rfl (kn rfl) sle_22) (A5 rfl rfl rfl rfl rfl .nil))) ?_
  try refine A1 ?_
  refine B7 (ι:={ j:Nat // j<=m.length })
   (fun j=>[(3,.is v0),(9003,ET 1003 v0),(9001,ET 1001 v1),(4,.own 1000),(5,BR (i:Int)),(13,.part (.one (HA L))),(14,BR (L.length:Int)),(15,BR (i:Int)),(26,.part (.one (txD m))),(27,BR (m.length:Int)),(28,BR (j.1:Int))])
   (fun _=>[]) (fun j=>[(1000,⟨41,1,L.length,(DV L.length (CV [] (L.take i))).set i (.cell v1),false⟩),(1001,⟨3,1,m.length,GA m.length (C6 (BB [] (L.take i)) (m.take j.1)),false⟩),(1003,⟨1000000,1,(mN (BE (BB [] (L.take i)) (m.take j.1))).length,mds kT (mN (BE (BB [] (L.take i)) (m.take j.1))),false⟩)]) (fun j=>m.length-j.1) ⟨0,by omega⟩
   (fun K=>AE ⟨s_t,s_t,s_t,s_t,s_t,s_t,s_t,s_t,s_t,s_t,s_t,trivial⟩ trivial ⟨rfl,rfl,rfl,trivial⟩) ?_
  rintro⟨j,hj⟩
  dsimp only at hj ⊢
  try refine A1 ?_
  refine A0 (A3 rfl rfl rfl (A4 rfl (kn rfl) (kn rfl) B9) .nil) ?_
  try refine A1 ?_
  refine AC rfl (fun h=>?_) (fun h=>?_)
  ·have hjl:j<m.length:=by have:=of_decide_eq_true h;omega
   obtain⟨s,hs⟩:∃ s,m[j]?=some s:=⟨_,List.getElem?_eq_getElem hjl⟩
   have hkn:=hL.known (j:=j) hi hmn
   have hk1:=HN (m.take j) s (BB [] (L.take i))
   have hn1:=HV (m.take j) s (BB [] (L.take i))
   rw[<- E8 hs]at hk1 hn1
   have hnl2:(C6 (BB [] (L.take i)) (m.take j)).length=j:=by rw[E1,List.length_take];omega
   have hrs:=NW (n:=m.length) (by omega) hn1
   rw[hnl2]at hrs
   have hrl:=OF m.length (C6 (BB [] (L.take i)) (m.take j)) (by omega)
   have hget:=LU (l:=DV L.length (CV [] (L.take i))) (x:=Dat.cell v1) (i:=i) (by rw[hol];omega)
   generalize BE (BB [] (L.take i)) (m.take j)=kw at hkn hk1 hrs ⊢
   generalize GA m.length (C6 (BB [] (L.take i)) (m.take j))=rw0 at hrs hrl ⊢
   generalize(DV L.length (CV [] (L.take i))).set i (.cell v1)=ow at hget ⊢
   try refine A1 ?_
   refine A0 (A5 rfl rfl rfl rfl rfl (A3 rfl rfl rfl (AH rfl (kn rfl) (kn rfl) (by omega) hs E9 sle_22 esz_22 rfl) (A3 rfl rfl rfl (A8 rfl (kn rfl) one_9) (A7 rfl rfl rfl rfl rfl (A7 rfl rfl rfl rfl rfl .nil))))) ?_
   try refine A1 ?_
   refine AE (T':=[(3,.is v0),(9003,ET 1003 v0),(9001,ET 1001 v1),(4,.own 1000),(5,BR (i:Int)),(7,BR (j:Int)),(8,.part (sP s)),(13,.part (.one (HA L))),(14,BR (L.length:Int)),(15,BR (i:Int)),(26,.part (.one (txD m))),(27,BR (m.length:Int)),(28,BR (j:Int))]) (B':=[]) (R':=[(1000,⟨41,1,L.length,ow,false⟩),(1001,⟨3,1,m.length,rw0,false⟩),(1003,⟨1000000,1,(mN kw).length,mds kT (mN kw),false⟩)]) ⟨s_t,s_t,s_t,s_t,s_t,s_t,s_t,s_t,s_t,s_t,s_t,s_t,s_t,trivial⟩ trivial ⟨rfl,rfl,rfl,trivial⟩ ?_
   refine MA 10 [[],[],[0,1],[2],[],[],[],[5,6],[3,4,0,1,2,3,4,5,6,7],[8,7,7,0,1,2,3,4,5,6,7]] [[false,false,false,false,false,false,false,false,false,false],[true,false,false,false,false,false,false,false,false,false],[false,true,false,false,false,false,false,false,false,false],[false,false,false,false,true,false,false,false,false,false],[false,false,false,false,false,true,false,false,false,false],[false,false,false,false,false,false,true,false,false,false],[true,true,false,false,false,false,false,false,false,false],[true,false,false,false,true,false,false,false,false,false],[true,false,false,false,false,true,false,false,false,false],[true,false,false,false,false,false,true,false,false,false],[false,true,false,false,true,false,false,false,false,false],[false,true,false,false,false,true,false,false,false,false],[false,true,false,false,false,false,true,false,false,false],[false,false,false,false,true,true,false,false,false,false],[false,false,false,false,true,false,true,false,false,false],[false,false,false,false,false,true,true,false,false,false],[true,true,true,false,false,false,false,false,false,false],[true,true,false,false,true,false,false,false,false,false],[true,true,false,false,false,true,false,false,false,false],[true,true,false,false,false,false,true,false,false,false],[true,false,false,false,true,true,false,false,false,false],[true,false,false,false,true,false,true,false,false,false],[true,false,false,false,false,true,true,false,false,false],[false,true,false,false,true,true,false,false,false,false],[false,true,false,false,true,false,true,false,false,false],[false,true,false,false,false,true,true,false,false,false],[false,false,false,false,true,true,true,false,false,false],[false,false,false,false,false,true,true,true,false,false],[true,true,true,true,false,false,false,false,false,false],[true,true,true,false,true,false,false,false,false,false],[true,true,true,false,false,true,false,false,false,false],[true,true,true,false,false,false,true,false,false,false],[true,true,false,false,true,true,false,false,false,false],[true,true,false,false,true,false,true,false,false,false],[true,true,false,false,false,true,true,false,false,false],[true,false,false,false,true,true,true,false,false,false],[true,false,false,false,false,true,true,true,false,false],[false,true,false,false,true,true,true,false,false,false],[false,true,false,false,false,true,true,true,false,false],[false,false,false,false,true,true,true,true,false,false],[true,true,true,true,true,false,false,false,false,false],[true,true,true,true,false,true,false,false,false,false],[true,true,true,true,false,false,true,false,false,false],[true,true,true,false,true,true,false,false,false,false],[true,true,true,false,true,false,true,false,false,false],[true,true,true,false,false,true,true,false,false,false],[true,true,false,false,true,true,true,false,false,false],[true,true,false,false,false,true,true,true,false,false],[true,false,false,false,true,true,true,true,false,false],[false,true,false,false,true,true,true,true,false,false],[true,true,true,true,true,true,false,false,false,false],[true,true,true,true,true,false,true,false,false,false],[true,true,true,true,false,true,true,false,false,false],[true,true,true,false,true,true,true,false,false,false],[true,true,true,false,false,true,true,true,false,false],[true,true,false,false,true,true,true,true,false,false],[true,true,true,true,true,true,true,false,false,false],[true,true,true,true,false,true,true,true,false,false],[true,true,true,false,true,true,true,true,false,false],[true,true,true,true,true,true,true,true,false,false],[true,true,true,true,true,true,true,true,true,false],[true,true,true,true,true,true,true,true,true,true]] [([false,false,false,false,false,false,false,false,false,false],0),([false,false,false,false,false,false,false,false,false,false],1),([false,false,false,false,false,false,false,false,false,false],4),([false,false,false,false,false,false,false,false,false,false],5),([false,false,false,false,false,false,false,false,false,false],6),([true,false,false,false,false,false,false,false,false,false],1),([true,false,false,false,false,false,false,false,false,false],4),([true,false,false,false,false,false,false,false,false,false],5),([true,false,false,false,false,false,false,false,false,false],6),([false,true,false,false,false,false,false,false,false,false],0),([false,true,false,false,false,false,false,false,false,false],4),([false,true,false,false,false,false,false,false,false,false],5),([false,true,false,false,false,false,false,false,false,false],6),([false,false,false,false,true,false,false,false,false,false],0),([false,false,false,false,true,false,false,false,false,false],1),([false,false,false,false,true,false,false,false,false,false],5),([false,false,false,false,true,false,false,false,false,false],6),([false,false,false,false,false,true,false,false,false,false],0),([false,false,false,false,false,true,false,false,false,false],1),([false,false,false,false,false,true,false,false,false,false],4),([false,false,false,false,false,true,false,false,false,false],6),([false,false,false,false,false,false,true,false,false,false],0),([false,false,false,false,false,false,true,false,false,false],1),([false,false,false,false,false,false,true,false,false,false],4),([false,false,false,false,false,false,true,false,false,false],5),([true,true,false,false,false,false,false,false,false,false],2),([true,true,false,false,false,false,false,false,false,false],4),([true,true,false,false,false,false,false,false,false,false],5),([true,true,false,false,false,false,false,false,false,false],6),([true,false,false,false,true,false,false,false,false,false],1),([true,false,false,false,true,false,false,false,false,false],5),([true,false,false,false,true,false,false,false,false,false],6),([true,false,false,false,false,true,false,false,false,false],1),([true,false,false,false,false,true,false,false,false,false],4),([true,false,false,false,false,true,false,false,false,false],6),([true,false,false,false,false,false,true,false,false,false],1),([true,false,false,false,false,false,true,false,false,false],4),([true,false,false,false,false,false,true,false,false,false],5),([false,true,false,false,true,false,false,false,false,false],0),([false,true,false,false,true,false,false,false,false,false],5),([false,true,false,false,true,false,false,false,false,false],6),([false,true,false,false,false,true,false,false,false,false],0),([false,true,false,false,false,true,false,false,false,false],4),([false,true,false,false,false,true,false,false,false,false],6),([false,true,false,false,false,false,true,false,false,false],0),([false,true,false,false,false,false,true,false,false,false],4),([false,true,false,false,false,false,true,false,false,false],5),([false,false,false,false,true,true,false,false,false,false],0),([false,false,false,false,true,true,false,false,false,false],1),([false,false,false,false,true,true,false,false,false,false],6),([false,false,false,false,true,false,true,false,false,false],0),([false,false,false,false,true,false,true,false,false,false],1),([false,false,false,false,true,false,true,false,false,false],5),([false,false,false,false,false,true,true,false,false,false],0),([false,false,false,false,false,true,true,false,false,false],1),([false,false,false,false,false,true,true,false,false,false],4),([false,false,false,false,false,true,true,false,false,false],7),([true,true,true,false,false,false,false,false,false,false],3),([true,true,true,false,false,false,false,false,false,false],4),([true,true,true,false,false,false,false,false,false,false],5),([true,true,true,false,false,false,false,false,false,false],6),([true,true,false,false,true,false,false,false,false,false],2),([true,true,false,false,true,false,false,false,false,false],5),([true,true,false,false,true,false,false,false,false,false],6),([true,true,false,false,false,true,false,false,false,false],2),([true,true,false,false,false,true,false,false,false,false],4),([true,true,false,false,false,true,false,false,false,false],6),([true,true,false,false,false,false,true,false,false,false],2),([true,true,false,false,false,false,true,false,false,false],4),([true,true,false,false,false,false,true,false,false,false],5),([true,false,false,false,true,true,false,false,false,false],1),([true,false,false,false,true,true,false,false,false,false],6),([true,false,false,false,true,false,true,false,false,false],1),([true,false,false,false,true,false,true,false,false,false],5),([true,false,false,false,false,true,true,false,false,false],1),([true,false,false,false,false,true,true,false,false,false],4),([true,false,false,false,false,true,true,false,false,false],7),([false,true,false,false,true,true,false,false,false,false],0),([false,true,false,false,true,true,false,false,false,false],6),([false,true,false,false,true,false,true,false,false,false],0),([false,true,false,false,true,false,true,false,false,false],5),([false,true,false,false,false,true,true,false,false,false],0),([false,true,false,false,false,true,true,false,false,false],4),([false,true,false,false,false,true,true,false,false,false],7),([false,false,false,false,true,true,true,false,false,false],0),([false,false,false,false,true,true,true,false,false,false],1),([false,false,false,false,true,true,true,false,false,false],7),([false,false,false,false,false,true,true,true,false,false],0),([false,false,false,false,false,true,true,true,false,false],1),([false,false,false,false,false,true,true,true,false,false],4),([true,true,true,true,false,false,false,false,false,false],4),([true,true,true,true,false,false,false,false,false,false],5),([true,true,true,true,false,false,false,false,false,false],6),([true,true,true,false,true,false,false,false,false,false],3),([true,true,true,false,true,false,false,false,false,false],5),([true,true,true,false,true,false,false,false,false,false],6),([true,true,true,false,false,true,false,false,false,false],3),([true,true,true,false,false,true,false,false,false,false],4),([true,true,true,false,false,true,false,false,false,false],6),([true,true,true,false,false,false,true,false,false,false],3),([true,true,true,false,false,false,true,false,false,false],4),([true,true,true,false,false,false,true,false,false,false],5),([true,true,false,false,true,true,false,false,false,false],2),([true,true,false,false,true,true,false,false,false,false],6),([true,true,false,false,true,false,true,false,false,false],2),([true,true,false,false,true,false,true,false,false,false],5),([true,true,false,false,false,true,true,false,false,false],2),([true,true,false,false,false,true,true,false,false,false],4),([true,true,false,false,false,true,true,false,false,false],7),([true,false,false,false,true,true,true,false,false,false],1),([true,false,false,false,true,true,true,false,false,false],7),([true,false,false,false,false,true,true,true,false,false],1),([true,false,false,false,false,true,true,true,false,false],4),([false,true,false,false,true,true,true,false,false,false],0),([false,true,false,false,true,true,true,false,false,false],7),([false,true,false,false,false,true,true,true,false,false],0),([false,true,false,false,false,true,true,true,false,false],4),([false,false,false,false,true,true,true,true,false,false],0),([false,false,false,false,true,true,true,true,false,false],1),([true,true,true,true,true,false,false,false,false,false],5),([true,true,true,true,true,false,false,false,false,false],6),([true,true,true,true,false,true,false,false,false,false],4),([true,true,true,true,false,true,false,false,false,false],6),([true,true,true,true,false,false,true,false,false,false],4),([true,true,true,true,false,false,true,false,false,false],5),([true,true,true,false,true,true,false,false,false,false],3),([true,true,true,false,true,true,false,false,false,false],6),([true,true,true,false,true,false,true,false,false,false],3),([true,true,true,false,true,false,true,false,false,false],5),([true,true,true,false,false,true,true,false,false,false],3),([true,true,true,false,false,true,true,false,false,false],4),([true,true,true,false,false,true,true,false,false,false],7),([true,true,false,false,true,true,true,false,false,false],2),([true,true,false,false,true,true,true,false,false,false],7),([true,true,false,false,false,true,true,true,false,false],2),([true,true,false,false,false,true,true,true,false,false],4),([true,false,false,false,true,true,true,true,false,false],1),([false,true,false,false,true,true,true,true,false,false],0),([true,true,true,true,true,true,false,false,false,false],6),([true,true,true,true,true,false,true,false,false,false],5),([true,true,true,true,false,true,true,false,false,false],4),([true,true,true,true,false,true,true,false,false,false],7),([true,true,true,false,true,true,true,false,false,false],3),([true,true,true,false,true,true,true,false,false,false],7),([true,true,true,false,false,true,true,true,false,false],3),([true,true,true,false,false,true,true,true,false,false],4),([true,true,false,false,true,true,true,true,false,false],2),([true,true,true,true,true,true,true,false,false,false],7),([true,true,true,true,false,true,true,true,false,false],4),([true,true,true,false,true,true,true,true,false,false],3),([true,true,true,true,true,true,true,true,false,false],8),([true,true,true,true,true,true,true,true,true,false],9)] [(0,33,.own 1000),(1,34,BR (i:Int)),(2,35,.via 1000 (AtV ((i:Int).toNat*1))),(3,36,.is v1),(4,37,BR (j:Int)),(5,38,.is v0),(6,39,.part (sP s)),(7,40,BR ((pos s kw:Nat):Int)),(8,41,.via 1001 (AtV ((j:Int).toNat*1)))] [] [(9,1001,⟨3,1,m.length,rw0.set j (J2 (pos s kw)),false⟩),(7,1003,⟨1000000,1,(mN (CG kw s)).length,mds kT (mN (CG kw s)),false⟩)] [(3,.is v0),(9003,ET 1003 v0),(9001,ET 1001 v1),(4,.own 1000),(5,BR (i:Int)),(7,BR (j:Int)),(8,.part (sP s)),(13,.part (.one (HA L))),(14,BR (L.length:Int)),(15,BR (i:Int)),(26,.part (.one (txD m))),(27,BR (m.length:Int)),(28,BR (j:Int))] [] [(1000,⟨41,1,L.length,ow,false⟩),(1001,⟨3,1,m.length,rw0,false⟩),(1003,⟨1000000,1,(mN kw).length,mds kT (mN kw),false⟩)] (by kernel_rfl) rfl BP (by kernel_rfl) (by decide) (fun K h=>h) ?_ ?_
   ·repeat' first
     | exact trivial
     | refine And.intro ?_ ?_
    all_goals
     intro K hK
     replace hK:=JZ (O8 hK)
     first
      | (refine B3 (i:=0) rfl (fun h=>h) ?_;refine AI ?_;refine AA ?_;refine A1 ?_;exact AR hK (by repeat' first | exact trivial | refine And.intro s_t ?_) (by repeat' first | exact trivial | refine And.intro s_b ?_) (by repeat' first | exact trivial | refine And.intro rfl ?_))
      | (refine B3 (i:=1) rfl (fun h=>h) ?_;refine AI ?_;refine AA ?_;refine A1 ?_;exact AR hK (by repeat' first | exact trivial | refine And.intro s_t ?_) (by repeat' first | exact trivial | refine And.intro s_b ?_) (by repeat' first | exact trivial | refine And.intro rfl ?_))
      | (refine B3 (i:=2) rfl (fun h=>h) ?_;refine AJ (AK rfl (kn rfl) rfl (kn rfl) ⟨by omega,by omega⟩ sle_35 esz_35) ?_;refine AA ?_;refine A1 ?_;exact AR hK (by repeat' first | exact trivial | refine And.intro s_t ?_) (by repeat' first | exact trivial | refine And.intro s_b ?_) (by repeat' first | exact trivial | refine And.intro rfl ?_))
      | (refine B3 (i:=3) rfl (fun h=>h) ?_;refine AJ (AT rfl (kn rfl) rfl (by simpa using hget) one_41) ?_;refine AA ?_;refine A1 ?_;exact AR hK (by repeat' first | exact trivial | refine And.intro s_t ?_) (by repeat' first | exact trivial | refine And.intro s_b ?_) (by repeat' first | exact trivial | refine And.intro rfl ?_))
      | (refine B3 (i:=4) rfl (fun h=>h) ?_;refine AI ?_;refine AA ?_;refine A1 ?_;exact AR hK (by repeat' first | exact trivial | refine And.intro s_t ?_) (by repeat' first | exact trivial | refine And.intro s_b ?_) (by repeat' first | exact trivial | refine And.intro rfl ?_))
      | (refine B3 (i:=5) rfl (fun h=>h) ?_;refine AI ?_;refine AA ?_;refine A1 ?_;exact AR hK (by repeat' first | exact trivial | refine And.intro s_t ?_) (by repeat' first | exact trivial | refine And.intro s_b ?_) (by repeat' first | exact trivial | refine And.intro rfl ?_))
      | (refine B3 (i:=6) rfl (fun h=>h) ?_;refine AI ?_;refine AA ?_;refine A1 ?_;exact AR hK (by repeat' first | exact trivial | refine And.intro s_t ?_) (by repeat' first | exact trivial | refine And.intro s_b ?_) (by repeat' first | exact trivial | refine And.intro rfl ?_))
      | (refine B3 (i:=7) rfl (fun h=>h) ?_;refine PJ rfl rfl rfl rfl (by kernel_rfl) (N8 kw (by omega) s v0) trivial ⟨rfl,trivial⟩ (fun w D M V a hT=>⟨(hT 38 _ rfl).atv_of (hT 9003 _ rfl),hT 39 _ rfl,trivial⟩) YN.tidy ?_;rintro _ _ _ ⟨rfl,rfl,rfl⟩;refine OD 9003 (t:=40) rfl ?_;refine AA ?_;refine A1 ?_;exact AR hK (by repeat' first | exact trivial | refine And.intro s_t ?_) (by repeat' first | exact trivial | refine And.intro s_b ?_) (by repeat' first | exact trivial | refine And.intro rfl ?_))
      | (refine B3 (i:=8) rfl (fun h=>h) ?_;refine IJ (t:=36) (s:=9001) rfl rfl ?_;refine AJ (AK rfl (FV (kn rfl) (GK _ _)) rfl (kn rfl) ⟨by omega,by omega⟩ sle_41 esz_41) ?_;refine GY 36 rfl (IP _ _) ?_;refine AA ?_;refine A1 ?_;exact AR hK (by repeat' first | exact trivial | refine And.intro s_t ?_) (by repeat' first | exact trivial | refine And.intro s_b ?_) (by repeat' first | exact trivial | refine And.intro rfl ?_))
      | (refine B3 (i:=9) rfl (fun h=>h) ?_;refine B8 (ds':=rw0.set j (J2 (pos s kw))) rfl rfl rfl (kn rfl) rfl (kn rfl) rfl (by rw[hrl];omega) sz_3 (by simp) ?_ rfl;refine AA ?_;refine A1 ?_;exact AR hK (by repeat' first | exact trivial | refine And.intro s_t ?_) (by repeat' first | exact trivial | refine And.intro s_b ?_) (by repeat' first | exact trivial | refine And.intro rfl ?_))
   try refine A1 ?_
   refine A0 (A3 rfl rfl rfl (A4 rfl (kn rfl) (kn rfl) (A9 (by first | omega | (dsimp only;omega)))) (A5 rfl rfl rfl rfl rfl .nil)) ?_
   try refine A1 ?_
   refine AF ⟨j+1,by omega⟩ (by dsimp only;omega) (fun K=>AE ⟨s_t,s_t,s_t,s_t,s_t,s_t,s_t,s_t,s_t,s_t,s_t,trivial⟩ trivial ⟨rfl,(by dsimp only;rw[<- hrs];rfl),(by dsimp only;rw[hk1];rfl),trivial⟩)
  have hjm:m.take j=m:=List.take_of_length_le (by have:=of_decide_eq_false h;omega)
  rw[hjm,<- hks]
  try refine A1 ?_
  refine JN 1001 rfl rfl ?_
  refine NE i (s:=9001) (r:=1000) (q:=1001) rfl rfl rfl rfl (LU (by rw[hol];omega)) (show _=DV L.length (CV [] (L.take (i+1))) by rw[List.set_set,<- hfin,<- MJ (E1 m _)];rfl) ?_
  refine A0 (A3 rfl rfl rfl (A4 rfl (kn rfl) (kn rfl) (A9 (by first | omega | (dsimp only;omega)))) (A5 rfl rfl rfl rfl rfl .nil)) ?_
  try refine A1 ?_
  refine AF ⟨i+1,by omega⟩ (by dsimp only;omega) (fun K=>AE ⟨s_t,s_t,s_t,s_t,s_t,s_t,trivial⟩ trivial ⟨rfl,rfl,trivial⟩)
 try refine A1 ?_
 refine AL 4 1000 rfl rfl rfl ?_
 refine A0 (A5 rfl rfl rfl rfl rfl (A7 rfl rfl rfl rfl rfl .nil)) ?_
 try refine A1 ?_
 exact AM rfl rfl (.tmp (kn rfl) (.nil)) (Imp.of_eq (by rw[List.take_of_length_le (by have:=of_decide_eq_false h;omega)];show IV.part (.one (.row 1 L.length (DV L.length (CV [] L))))=_;rw[MO (GU L [])])) rfl
end Go.Proofs.Ytmhhdoaiccahaaa
