/- Part 18. Conditions: as each theorem says. -/
import Derived.Test.YtmhhdoaiccahaaaAT17
import Derived.Test.YtmhhdoaiccahaaaProg
set_option maxRecDepth 100000
namespace Go.Proofs.Ytmhhdoaiccahaaa
open Go.RowKit
theorem OP{k c:Int}(t:Td)(h:DH (k,c)=false):td1 t k c.toNat=t:=by
 unfold td1
 by_cases h0:c.toNat=0
 ·rw[if_pos h0]
 ·have:¬ (1<=k/\k<=3):=fun hk=>by
   have:DH (k,c)=true:=DO.2 ⟨hk,by dsimp only;omega⟩
   rw[this]at h;cases h
  rw[if_neg h0,if_neg (by omega),if_neg (by omega),if_neg (by omega)]
theorem J3(t:Td):B2 (fl t)=BD (BD (B2 t.1) 2 (t.2.1:Int)) 3 (t.2.2:Int):=by
 unfold fl
 rw[C5,C5]
theorem O5{t:Td}{c:Nat}(h:c≠0):td1 t 1 c=(fl t++List.replicate c 1,0,0):=by unfold td1;rw[if_neg h,if_pos rfl]
theorem P2{t:Td}{c:Nat}(h:c≠0):td1 t 2 c=(t.1,t.2.1+c,t.2.2):=by unfold td1;rw[if_neg h,if_neg (by decide),if_pos rfl]
theorem NI{t:Td}{c:Nat}(h:c≠0):td1 t 3 c=(t.1,t.2.1,t.2.2+c):=by unfold td1;rw[if_neg h,if_neg (by decide),if_neg (by decide),if_pos rfl]
theorem JU{t:Td}{n:Nat}(h:(fl t).length<=n)(hn:n<=3000000):Sm (B2 t.1)/\Sm (BD (B2 t.1) 2 (t.2.1:Int))/\Sm (BD (BD (B2 t.1) 2 (t.2.1:Int)) 3 (t.2.2:Int))/\(B2 t.1).length<=n/\t.2.1<=n/\t.2.2<=n:=by
 rw[CR]at h
 have h1:=C5 t.1 2 t.2.1
 have h2:=J3 t
 have h3:=E5 t.1
 rw[<- h1,<- h2]at *
 exact⟨DA _ (by omega),DA _ (by simp only[List.length_append,List.length_replicate];omega),DA _ (by rw[CR];omega),by omega,by omega,by omega⟩
abbrev pT(rs:List Rn)(t:Td)(i:Nat):TL:=[(3,.own 1000),(4,zI (t.2.1:Int)),(5,zI (t.2.2:Int)),(8,.part (.one (DR rs))),(9,zI (rs.length:Int)),(10,zI (i:Int))]
set_option maxHeartbeats 4000000 in
theorem PB(rs:List Rn)(hrs:rs.length<=1000)(hc:∀ p∈rs,p.2<=200):EF Try.prog [] 12 [.one (DR rs)] (.part (.one (DR (FI rs)))):=by
 have htid:FI rs=B2 (fl (td ([],0,0) rs)):=rfl
 refine AU 47 Try.func12 rfl rfl rfl fun w D=>?_
 try refine A1 ?_
 refine A0 (A7 rfl rfl rfl rfl rfl .nil) ?_
 try refine A1 ?_
 refine A0 (A7 rfl rfl rfl rfl rfl .nil) ?_
 try refine A1 ?_
 refine BW 3 1000 52 2 rfl rfl rfl ?_
 refine A0 (A7 rfl rfl rfl rfl rfl (A7 rfl rfl rfl rfl rfl .nil)) ?_
 try refine A1 ?_
 refine A0 (A5 rfl rfl rfl rfl rfl (A3 rfl rfl rfl (AO rfl (kn rfl) sle_38) (A5 rfl rfl rfl rfl rfl .nil))) ?_
 try refine A1 ?_
 refine B7 (ι:={ i:Nat // i<=rs.length })
  (fun i=>pT rs (td ([],0,0) (rs.take i.1)) i.1)
  (fun _=>[]) (fun i=>[(1000,rnW (B2 (td ([],0,0) (rs.take i.1)).1))]) (fun i=>rs.length-i.1) ⟨0,Nat.zero_le _⟩
  (fun K=>AE ⟨s_t,s_t,s_t,s_t,s_t,s_t,trivial⟩ trivial ⟨rfl,trivial⟩) ?_
 rintro⟨i,hi⟩
 dsimp only at hi ⊢
 have hlen:(fl (td ([],0,0) (rs.take i))).length<=200000:=by
  have:=KT (n:=200) (rs.take i) ([],0,0) fun p hp=>hc p (List.mem_of_mem_take hp)
  rw[List.length_take]at this
  have h0:(fl ([],0,0)).length=0:=rfl
  omega
 try refine A1 ?_
 refine A0 (A3 rfl rfl rfl (A4 rfl (kn rfl) (kn rfl) B9) .nil) ?_
 try refine A1 ?_
 refine AC rfl (fun h=>?_) (fun h=>?_)
 ·have hlt:=ltd h
  obtain⟨⟨k,c⟩,hp⟩:∃ p,rs[i]?=some p:=⟨_,List.getElem?_eq_getElem hlt⟩
  have hnext:=LA hp ([],0,0)
  have hcc:c<=200:=hc _ (List.mem_of_getElem? hp)
  have hri:=O2 (k,c)
  simp only at hnext
  generalize td ([],0,0) (rs.take i)=t at hlen hnext ⊢
  obtain⟨m1,m2,m3,l1,l2,l3⟩:=JU hlen (by omega)
  try refine A1 ?_
  refine AG ?_
  refine AJ (AH rfl (kn rfl) (kn rfl) (by omega) hp F2 sle_38 esz_38 rfl) ?_
  refine AJ (BK rfl (kn rfl) agg_52 sz_52) ?_
  refine DM 7 [.is (.int .i64 0),.is (.int .i64 0)] rfl rfl rfl rfl zr_52 (fun w D M V=>⟨rfl,fun j x v h1 h2=>DE _ h1 h2 rfl⟩) rfl rfl rfl rfl ?_
  refine CS rfl rfl rfl (kn rfl) rfl (kn rfl) rfl rfl sz_52 ?_
  refine AA ?_
  try refine A1 ?_
  refine A0 (A3 rfl rfl rfl (G5 (ds:=[_,_]) 2 rfl (kn rfl) rfl rfl agg_52 sz_52 rfl) (A3 rfl rfl rfl (B6 rfl (by kernel_rfl) (hri) ⟨(kn rfl),trivial⟩) (A3 rfl rfl rfl (H1 rfl (kn rfl)) .nil))) ?_
  try refine A1 ?_
  refine AC rfl (fun h1=>?_) (fun h1=>?_)
  ·rw[OP t (by simpa using h1)]at hnext
   try refine A1 ?_
   refine A0 (A3 rfl rfl rfl (A4 rfl (kn rfl) (kn rfl) (A9 (by first | omega | (dsimp only;omega)))) (A5 rfl rfl rfl rfl rfl .nil)) ?_
   try refine A1 ?_
   refine AF ⟨i+1,by omega⟩ (by dsimp only;omega) (fun K=>AE ⟨s_t,s_z rfl (by dsimp only;rw[hnext]),s_z rfl (by dsimp only;rw[hnext]),s_t,s_t,s_t,trivial⟩ trivial ⟨by dsimp only;rw[hnext];rfl,trivial⟩)
  have hr:DH (k,c)=true:=by simpa using h1
  obtain⟨⟨k1,k2⟩,k3⟩:=DO.1 hr
  simp only at k1 k2 k3
  obtain⟨n,rfl⟩:∃ n:Nat,c=(n:Int):=⟨c.toNat,by omega⟩
  rw[Int.toNat_natCast]at hnext
  have hn0:n≠0:=by omega
  try refine A1 ?_
  refine A0 (A3 rfl rfl rfl (AQ rfl (kn rfl) off_52_0) (A3 rfl rfl rfl (AP rfl (kn rfl) rfl rfl one_3) .nil)) ?_
  try refine A1 ?_
  refine A0 (A3 rfl rfl rfl (A4 rfl (kn rfl) (kn rfl) B4) (A7 rfl rfl rfl rfl rfl .nil)) ?_
  try refine A1 ?_
  refine AC rfl (fun h2=>?_) (fun h2=>?_)
  ·obtain rfl:=of_decide_eq_true h2
   rw[P2 hn0]at hnext
   try refine A1 ?_
   refine A0 (A5 rfl rfl rfl rfl rfl (A3 rfl rfl rfl (AQ rfl (kn rfl) off_52_1) (A3 rfl rfl rfl (AP rfl (kn rfl) rfl rfl one_3) (A3 rfl rfl rfl (A4 rfl (kn rfl) (kn rfl) (A9 (by first | omega | (dsimp only;omega)))) (A7 rfl rfl rfl rfl rfl .nil))))) ?_
   try refine A1 ?_
   refine A0 (A3 rfl rfl rfl (A4 rfl (kn rfl) (kn rfl) (A9 (by first | omega | (dsimp only;omega)))) (A5 rfl rfl rfl rfl rfl .nil)) ?_
   try refine A1 ?_
   refine AF ⟨i+1,by omega⟩ (by dsimp only;omega) (fun K=>AE ⟨s_t,s_z rfl (by dsimp only;rw[hnext];dsimp only;omega),s_z rfl (by dsimp only;rw[hnext]),s_t,s_t,s_t,trivial⟩ trivial ⟨by dsimp only;rw[hnext];rfl,trivial⟩)
  try refine A1 ?_
  refine A0 (A3 rfl rfl rfl (A4 rfl (kn rfl) (kn rfl) B4) (A7 rfl rfl rfl rfl rfl .nil)) ?_
  try refine A1 ?_
  refine AC rfl (fun h3=>?_) (fun h3=>?_)
  ·obtain rfl:=of_decide_eq_true h3
   rw[NI hn0]at hnext
   try refine A1 ?_
   refine A0 (A5 rfl rfl rfl rfl rfl (A3 rfl rfl rfl (AQ rfl (kn rfl) off_52_1) (A3 rfl rfl rfl (AP rfl (kn rfl) rfl rfl one_3) (A3 rfl rfl rfl (A4 rfl (kn rfl) (kn rfl) (A9 (by first | omega | (dsimp only;omega)))) (A7 rfl rfl rfl rfl rfl .nil))))) ?_
   try refine A1 ?_
   refine A0 (A3 rfl rfl rfl (A4 rfl (kn rfl) (kn rfl) (A9 (by first | omega | (dsimp only;omega)))) (A5 rfl rfl rfl rfl rfl .nil)) ?_
   try refine A1 ?_
   refine AF ⟨i+1,by omega⟩ (by dsimp only;omega) (fun K=>AE ⟨s_t,s_z rfl (by dsimp only;rw[hnext]),s_z rfl (by dsimp only;rw[hnext];dsimp only;omega),s_t,s_t,s_t,trivial⟩ trivial ⟨by dsimp only;rw[hnext];rfl,trivial⟩)
  try refine A1 ?_
  refine A0 (A3 rfl rfl rfl (A4 rfl (kn rfl) (kn rfl) B4) (A7 rfl rfl rfl rfl rfl .nil)) ?_
  try refine A1 ?_
  obtain rfl:k=1:=by
   have:=of_decide_eq_false h2
   have:=of_decide_eq_false h3
   omega
  rw[O5 hn0]at hnext
  refine G8 ?_
  have a1:=CT (B2 t.1) 2 (t.2.1:Int) (by omega) m1 (by omega)
  have r1:=D8 (B2 t.1) 2 (t.2.1:Int)
  have a2:=CT _ 3 (t.2.2:Int) (show(BD (B2 t.1) 2 (t.2.1:Int)).length<=10000000 by omega) m2 (by omega)
  have r2':=D8 (BD (B2 t.1) 2 (t.2.1:Int)) 3 (t.2.2:Int)
  have a3:=CT _ 1 (n:Int) (show(BD (BD (B2 t.1) 2 (t.2.1:Int)) 3 (t.2.2:Int)).length<=10000000 by omega) m3 (by omega)
  have hfin:BD (BD (BD (B2 t.1) 2 (t.2.1:Int)) 3 (t.2.2:Int)) 1 (n:Int)=B2 (fl t++List.replicate n 1):=by rw[C5,J3]
  rw[hfin]at a3
  try refine A1 ?_
  refine AE (T':=(7,.box 7 0)::pT rs t i) (B':=[(7,⟨52,[zI 1,zI (n:Int)]⟩)]) (R':=[(1000,rnW (B2 t.1))]) ⟨s_t,s_t,s_t,s_t,s_t,s_t,s_t,trivial⟩ ⟨s_b,trivial⟩ ⟨rfl,trivial⟩ ?_
  refine EA 9 [[],[],[0,1],[],[2,3,2],[],[5],[4,6,4],[7,7,0,1,2,3,4,5,6,7]] [[false,false,false,false,false,false,false,false,false],[true,false,false,false,false,false,false,false,false],[false,true,false,false,false,false,false,false,false],[false,false,false,true,false,false,false,false,false],[false,false,false,false,false,true,false,false,false],[true,true,false,false,false,false,false,false,false],[true,false,false,true,false,false,false,false,false],[true,false,false,false,false,true,false,false,false],[false,true,false,true,false,false,false,false,false],[false,true,false,false,false,true,false,false,false],[false,false,false,true,false,true,false,false,false],[false,false,false,false,false,true,true,false,false],[true,true,true,false,false,false,false,false,false],[true,true,false,true,false,false,false,false,false],[true,true,false,false,false,true,false,false,false],[true,false,false,true,false,true,false,false,false],[true,false,false,false,false,true,true,false,false],[false,true,false,true,false,true,false,false,false],[false,true,false,false,false,true,true,false,false],[false,false,false,true,false,true,true,false,false],[true,true,true,true,false,false,false,false,false],[true,true,true,false,false,true,false,false,false],[true,true,false,true,false,true,false,false,false],[true,true,false,false,false,true,true,false,false],[true,false,false,true,false,true,true,false,false],[false,true,false,true,false,true,true,false,false],[true,true,true,true,true,false,false,false,false],[true,true,true,true,false,true,false,false,false],[true,true,true,false,false,true,true,false,false],[true,true,false,true,false,true,true,false,false],[true,true,true,true,true,true,false,false,false],[true,true,true,true,false,true,true,false,false],[true,true,true,true,true,true,true,false,false],[true,true,true,true,true,true,true,true,false],[true,true,true,true,true,true,true,true,true]] [([false,false,false,false,false,false,false,false,false],0),([false,false,false,false,false,false,false,false,false],1),([false,false,false,false,false,false,false,false,false],3),([false,false,false,false,false,false,false,false,false],5),([true,false,false,false,false,false,false,false,false],1),([true,false,false,false,false,false,false,false,false],3),([true,false,false,false,false,false,false,false,false],5),([false,true,false,false,false,false,false,false,false],0),([false,true,false,false,false,false,false,false,false],3),([false,true,false,false,false,false,false,false,false],5),([false,false,false,true,false,false,false,false,false],0),([false,false,false,true,false,false,false,false,false],1),([false,false,false,true,false,false,false,false,false],5),([false,false,false,false,false,true,false,false,false],0),([false,false,false,false,false,true,false,false,false],1),([false,false,false,false,false,true,false,false,false],3),([false,false,false,false,false,true,false,false,false],6),([true,true,false,false,false,false,false,false,false],2),([true,true,false,false,false,false,false,false,false],3),([true,true,false,false,false,false,false,false,false],5),([true,false,false,true,false,false,false,false,false],1),([true,false,false,true,false,false,false,false,false],5),([true,false,false,false,false,true,false,false,false],1),([true,false,false,false,false,true,false,false,false],3),([true,false,false,false,false,true,false,false,false],6),([false,true,false,true,false,false,false,false,false],0),([false,true,false,true,false,false,false,false,false],5),([false,true,false,false,false,true,false,false,false],0),([false,true,false,false,false,true,false,false,false],3),([false,true,false,false,false,true,false,false,false],6),([false,false,false,true,false,true,false,false,false],0),([false,false,false,true,false,true,false,false,false],1),([false,false,false,true,false,true,false,false,false],6),([false,false,false,false,false,true,true,false,false],0),([false,false,false,false,false,true,true,false,false],1),([false,false,false,false,false,true,true,false,false],3),([true,true,true,false,false,false,false,false,false],3),([true,true,true,false,false,false,false,false,false],5),([true,true,false,true,false,false,false,false,false],2),([true,true,false,true,false,false,false,false,false],5),([true,true,false,false,false,true,false,false,false],2),([true,true,false,false,false,true,false,false,false],3),([true,true,false,false,false,true,false,false,false],6),([true,false,false,true,false,true,false,false,false],1),([true,false,false,true,false,true,false,false,false],6),([true,false,false,false,false,true,true,false,false],1),([true,false,false,false,false,true,true,false,false],3),([false,true,false,true,false,true,false,false,false],0),([false,true,false,true,false,true,false,false,false],6),([false,true,false,false,false,true,true,false,false],0),([false,true,false,false,false,true,true,false,false],3),([false,false,false,true,false,true,true,false,false],0),([false,false,false,true,false,true,true,false,false],1),([true,true,true,true,false,false,false,false,false],4),([true,true,true,true,false,false,false,false,false],5),([true,true,true,false,false,true,false,false,false],3),([true,true,true,false,false,true,false,false,false],6),([true,true,false,true,false,true,false,false,false],2),([true,true,false,true,false,true,false,false,false],6),([true,true,false,false,false,true,true,false,false],2),([true,true,false,false,false,true,true,false,false],3),([true,false,false,true,false,true,true,false,false],1),([false,true,false,true,false,true,true,false,false],0),([true,true,true,true,true,false,false,false,false],5),([true,true,true,true,false,true,false,false,false],4),([true,true,true,true,false,true,false,false,false],6),([true,true,true,false,false,true,true,false,false],3),([true,true,false,true,false,true,true,false,false],2),([true,true,true,true,true,true,false,false,false],6),([true,true,true,true,false,true,true,false,false],4),([true,true,true,true,true,true,true,false,false],7),([true,true,true,true,true,true,true,true,false],8)] [(8,3,.own 1000),(7,37,.junk),(7,40,.own 1000),(4,35,.junk),(4,37,.own 1000),(2,33,.junk),(2,3,.junk),(2,35,.own 1000),(0,33,.own 1000),(1,34,zI (t.2.1:Int)),(3,36,zI (t.2.2:Int)),(5,38,.box 7 1),(6,39,zI (n:Int))] [] [(7,1000,rnW (B2 (fl t++List.replicate n 1))),(4,1000,rnW (BD (BD (B2 t.1) 2 (t.2.1:Int)) 3 (t.2.2:Int))),(2,1000,rnW (BD (B2 t.1) 2 (t.2.1:Int)))] [(7,.box 7 0),(3,.own 1000),(4,zI (t.2.1:Int)),(5,zI (t.2.2:Int)),(8,.part (.one (DR rs))),(9,zI (rs.length:Int)),(10,zI (i:Int))] [(7,⟨52,[zI 1,zI (n:Int)]⟩)] [(1000,rnW (B2 t.1))] (by kernel_rfl) rfl BP (by kernel_rfl) (by decide) (fun K h=>h) ?_ ?_
  ·repeat' first
    | exact trivial
    | refine And.intro ?_ ?_
   all_goals
    intro K hK
    replace hK:=L3 (JZ (O8 hK))
    first
     | (refine B3 (i:=0) rfl (fun h=>h) ?_;refine AI ?_;refine AA ?_;refine A1 ?_;exact AR hK (by repeat' first | exact trivial | refine And.intro s_t ?_) (by repeat' first | exact trivial | refine And.intro s_b ?_) (by repeat' first | exact trivial | refine And.intro rfl ?_))
     | (refine B3 (i:=1) rfl (fun h=>h) ?_;refine AI ?_;refine AA ?_;refine A1 ?_;exact AR hK (by repeat' first | exact trivial | refine And.intro s_t ?_) (by repeat' first | exact trivial | refine And.intro s_b ?_) (by repeat' first | exact trivial | refine And.intro rfl ?_))
     | (refine B3 (i:=2) rfl (fun h=>h) ?_;refine BN rfl rfl rfl rfl (by kernel_rfl) (a1) trivial ⟨rfl,trivial⟩ ⟨(kn rfl),⟨(kn rfl),⟨(kn rfl),trivial⟩⟩⟩ (YA.tidy) ?_;rintro _ _ _ ⟨rfl,rfl,rfl⟩;refine AA ?_;refine A1 ?_;exact AR hK (by repeat' first | exact trivial | refine And.intro s_t ?_) (by repeat' first | exact trivial | refine And.intro s_b ?_) (by repeat' first | exact trivial | refine And.intro rfl ?_))
     | (refine B3 (i:=3) rfl (fun h=>h) ?_;refine AI ?_;refine AA ?_;refine A1 ?_;exact AR hK (by repeat' first | exact trivial | refine And.intro s_t ?_) (by repeat' first | exact trivial | refine And.intro s_b ?_) (by repeat' first | exact trivial | refine And.intro rfl ?_))
     | (refine B3 (i:=4) rfl (fun h=>h) ?_;refine BN rfl rfl rfl rfl (by kernel_rfl) (a2) trivial ⟨rfl,trivial⟩ ⟨(kn rfl),⟨(kn rfl),⟨(kn rfl),trivial⟩⟩⟩ (YA.tidy) ?_;rintro _ _ _ ⟨rfl,rfl,rfl⟩;refine AA ?_;refine A1 ?_;exact AR hK (by repeat' first | exact trivial | refine And.intro s_t ?_) (by repeat' first | exact trivial | refine And.intro s_b ?_) (by repeat' first | exact trivial | refine And.intro rfl ?_))
     | (refine B3 (i:=5) rfl (fun h=>h) ?_;refine AJ (AQ rfl (kn rfl) off_52_1) ?_;refine AA ?_;refine A1 ?_;exact AR hK (by repeat' first | exact trivial | refine And.intro s_t ?_) (by repeat' first | exact trivial | refine And.intro s_b ?_) (by repeat' first | exact trivial | refine And.intro rfl ?_))
     | (refine B3 (i:=6) rfl (fun h=>h) ?_;refine AJ (AP rfl (kn rfl) rfl rfl one_3) ?_;refine AA ?_;refine A1 ?_;exact AR hK (by repeat' first | exact trivial | refine And.intro s_t ?_) (by repeat' first | exact trivial | refine And.intro s_b ?_) (by repeat' first | exact trivial | refine And.intro rfl ?_))
     | (refine B3 (i:=7) rfl (fun h=>h) ?_;refine BN rfl rfl rfl rfl (by kernel_rfl) (a3) trivial ⟨rfl,trivial⟩ ⟨(kn rfl),⟨(kn rfl),⟨(kn rfl),trivial⟩⟩⟩ (YA.tidy) ?_;rintro _ _ _ ⟨rfl,rfl,rfl⟩;refine AA ?_;refine A1 ?_;exact AR hK (by repeat' first | exact trivial | refine And.intro s_t ?_) (by repeat' first | exact trivial | refine And.intro s_b ?_) (by repeat' first | exact trivial | refine And.intro rfl ?_))
     | (refine B3 (i:=8) rfl (fun h=>h) ?_;refine B5 ?_;refine AA ?_;refine A1 ?_;exact AR hK (by repeat' first | exact trivial | refine And.intro s_t ?_) (by repeat' first | exact trivial | refine And.intro s_b ?_) (by repeat' first | exact trivial | refine And.intro rfl ?_))
  try refine A1 ?_
  refine A0 (A7 rfl rfl rfl rfl rfl (A7 rfl rfl rfl rfl rfl .nil)) ?_
  try refine A1 ?_
  refine A0 (A3 rfl rfl rfl (A4 rfl (kn rfl) (kn rfl) (A9 (by first | omega | (dsimp only;omega)))) (A5 rfl rfl rfl rfl rfl .nil)) ?_
  try refine A1 ?_
  refine AF ⟨i+1,by omega⟩ (by dsimp only;omega) (fun K=>AE ⟨s_t,s_z rfl (by dsimp only;rw[hnext];rfl),s_z rfl (by dsimp only;rw[hnext];rfl),s_t,s_t,s_t,trivial⟩ trivial ⟨by dsimp only;rw[hnext];rfl,trivial⟩)
 rw[List.take_of_length_le (ltf h)]at hlen ⊢
 rw[htid]
 generalize td ([],0,0) rs=t at hlen ⊢
 obtain⟨m1,m2,m3,l1,l2,l3⟩:=JU hlen (by omega)
 have a1:=CT (B2 t.1) 2 (t.2.1:Int) (by omega) m1 (by omega)
 have r1:=D8 (B2 t.1) 2 (t.2.1:Int)
 have a2:=CT _ 3 (t.2.2:Int) (show(BD (B2 t.1) 2 (t.2.1:Int)).length<=10000000 by omega) m2 (by omega)
 rw[J3]
 try refine A1 ?_
 refine AG ?_
 refine AI ?_
 refine AI ?_
 refine BN rfl rfl rfl rfl (by kernel_rfl) (a1) trivial ⟨rfl,trivial⟩ ⟨(kn rfl),⟨(kn rfl),⟨(kn rfl),trivial⟩⟩⟩ (YA.tidy) ?_
 rintro _ _ _ ⟨rfl,rfl,rfl⟩
 refine AI ?_
 refine BN rfl rfl rfl rfl (by kernel_rfl) (a2) trivial ⟨rfl,trivial⟩ ⟨(kn rfl),⟨(kn rfl),⟨(kn rfl),trivial⟩⟩⟩ (YA.tidy) ?_
 rintro _ _ _ ⟨rfl,rfl,rfl⟩
 refine AL 46 1000 rfl rfl rfl ?_
 refine B5 ?_
 refine AA ?_
 try refine A1 ?_
 exact AM rfl rfl (.tmp (kn rfl) (.nil)) (Imp.refl _) rfl
abbrev Tx:Type:=List UInt8
def pos(s:Tx):List Tx->Nat
 | []=>0
 | x::l=>if x=s then 0 else pos s l+1
theorem IU(s:Tx):∀ l:List Tx,pos s l<=l.length
 | []=>Nat.le_refl _
 | x::l=>by
  have:=IU s l
  unfold pos
  split
  ·omega
  ·simp only[List.length_cons];omega
theorem GJ(s:Tx):∀ (l:List Tx) (k:Nat) (x:Tx),l[k]?=some x->k<=pos s l->(x=s↔k=pos s l)
 | [],k,x,h,_=>by simp at h
 | y::l,0,x,h,_=>by
  obtain rfl:y=x:=by simpa using h
  unfold pos
  by_cases h1:y=s
  ·rw[if_pos h1]
   exact⟨fun _=>rfl,fun _=>h1⟩
  ·rw[if_neg h1]
   exact⟨fun h=>absurd h h1,fun h=>by omega⟩
 | y::l,k+1,x,h,hk=>by
  have h':l[k]?=some x:=by simpa using h
  by_cases h1:y=s
  ·rw[pos,if_pos h1]at hk
   omega
  ·rw[pos,if_neg h1]at hk ⊢
   rw[GJ s l k x h' (by omega)]
   omega
def CG(l:List Tx)(s:Tx):List Tx:=if pos s l<l.length then l else l++[s]
def BE(l:List Tx):List Tx->List Tx
 | []=>l
 | s::m=>BE (CG l s) m
def C6(l:List Tx):List Tx->List Nat
 | []=>[]
 | s::m=>pos s l::C6 (CG l s) m
def BB(l:List Tx):List (List Tx)->List Tx
 | []=>l
 | m::r=>BB (BE l m) r
def CV(l:List Tx):List (List Tx)->List (List Nat)
 | []=>[]
 | m::r=>C6 l m::CV (BE l m) r
theorem HN(m:List Tx)(s:Tx):∀ l,BE l (m++[s])=CG (BE l m) s:=by
 induction m with
 | nil=>intro l;rfl
 | cons x m ih=>intro l;exact ih (CG l x)
theorem HV(m:List Tx)(s:Tx):∀ l,C6 l (m++[s])=C6 l m++[pos s (BE l m)]:=by
 induction m with
 | nil=>intro l;rfl
 | cons x m ih=>intro l;exact congrArg (pos x l :: ·) (ih (CG l x))
theorem E1(m:List Tx):∀ l,(C6 l m).length=m.length:=by
 induction m with
 | nil=>intro l;rfl
 | cons x m ih=>intro l;exact congrArg (· + 1) (ih (CG l x))
theorem HL(r:List (List Tx))(m:List Tx):∀ l,BB l (r++[m])=BE (BB l r) m:=by
 induction r with
 | nil=>intro l;rfl
 | cons x r ih=>intro l;exact ih (BE l x)
theorem I7(r:List (List Tx))(m:List Tx):∀ l,CV l (r++[m])=CV l r++[C6 (BB l r) m]:=by
 induction r with
 | nil=>intro l;rfl
 | cons x r ih=>intro l;exact congrArg (C6 l x :: ·) (ih (BE l x))
theorem GU(r:List (List Tx)):∀ l,(CV l r).length=r.length:=by
 induction r with
 | nil=>intro l;rfl
 | cons x r ih=>intro l;exact congrArg (· + 1) (ih (BE l x))
theorem P4(l:List Tx)(s:Tx):(CG l s).length<=l.length+1:=by
 unfold CG
 split
 ·omega
 ·simp
theorem I8(m:List Tx):∀ l,(BE l m).length<=l.length+m.length:=by
 induction m with
 | nil=>intro l;simp[BE]
 | cons x m ih=>
  intro l
  have h1:=ih (CG l x)
  have h2:=P4 l x
  simp only[BE,List.length_cons]
  omega
theorem E8{α:Type}{l:List α}{k:Nat}{x:α}(h:l[k]?=some x):l.take (k+1)=l.take k++[x]:=by
 rw[List.take_add_one,h]
 rfl
def IL:Nat->List Tx->List (Tx×Dat)
 | _,[]=>[]
 | k,x::l=>(x,.cell (.int .i64 (k:Int)))::IL (k+1) l
theorem JT:∀ (l:List Tx) (k:Nat),(IL k l).length=l.length
 | [],_=>rfl
 | x::l,k=>congrArg (· + 1) (JT l (k+1))
theorem KA(s:Tx):∀ (l:List Tx) (k:Nat),CU s (IL k l)=if pos s l<l.length then some (.cell (.int .i64 ((k+pos s l:Nat):Int)))else none
 | [],k=>rfl
 | x::l,k=>by
  unfold IL CU pos
  by_cases h:x=s
  ·rw[if_pos h.symm,if_pos h,if_pos (by simp)]
   rfl
  ·rw[if_neg (Ne.symm h),if_neg h,KA s l (k+1)]
   by_cases h1:pos s l<l.length
   ·rw[if_pos h1,if_pos (by simpa using h1)]
    rw[show k+1+pos s l=k+(pos s l+1) by omega]
   ·rw[if_neg h1,if_neg (by simpa using h1)]
theorem K0{s:Tx}{d:Dat}:∀ {ps:List (Tx×Dat)},CU s ps=none->EJ s d ps=ps++[(s,d)]
 | [],_=>rfl
 | p::ps,h=>by
  unfold CU at h
  split at h
  ·cases h
  ·rename_i hn
   unfold EJ
   rw[if_neg hn,K0 h]
   rfl
theorem I3(s:Tx):∀ (l:List Tx) (k:Nat),IL k (l++[s])=IL k l++[(s,.cell (.int .i64 ((k+l.length:Nat):Int)))]
 | [],k=>rfl
 | x::l,k=>by
  show _::IL (k+1) (l++[s])=_::(IL (k+1) l++_)
  rw[I3 s l (k+1),List.length_cons,show k+1+l.length=k+(l.length+1) by omega]
abbrev iP(z:Int):Part:=.one (.cell (.int .i64 z))
abbrev sP(l:Tx):Part:=.one (.cell (.string (str l)))
abbrev tP(b:Bool):Part:=.one (.cell (.bool b))
theorem O1{a b:Bool}(h:a=b):Imp (.part (tP a)) (.part (tP b)):=Imp.of_eq (by rw[h])
abbrev sC(s:Tx):Dat:=.cell (.string (str s))
def sD1(s:Tx):List Dat:=[sC s]
def iD1(z:Nat):List Dat:=[.cell (.int .i64 (z:Int))]
theorem E9(s:Tx):(sD1 s).length=1:=rfl
theorem PF(z:Nat):(iD1 z).length=1:=rfl
abbrev txD(l:List Tx):Dat:=.row 1 l.length (l.flatMap sD1)
abbrev nsD(l:List Nat):Dat:=.row 1 l.length (l.flatMap iD1)
def S8(l:List Tx):List Dat:=[txD l]
def GD(l:List Nat):List Dat:=[nsD l]
theorem JH(l:List Tx):(S8 l).length=1:=rfl
theorem E3(l:List Nat):(GD l).length=1:=rfl
abbrev HA(L:List (List Tx)):Dat:=.row 1 L.length (L.flatMap S8)
abbrev NB(L:List (List Nat)):Dat:=.row 1 L.length (L.flatMap GD)
abbrev BR(z:Int):IV:=.is (.int .i64 z)
def I5(l:List Tx)(m n:Nat):Bool:=decide (m<l.length)||l.any fun s=>decide (n<s.length)
theorem L6(l:List Tx)(m n:Nat)(hm:m<=1000000):EF Try.prog [] 5 [.one (txD l),iP (m:Int),iP (n:Int)] (.part (tP (I5 l m n))):=by
 refine AU 24 Try.func5 rfl rfl rfl fun w D=>?_
 try refine A1 ?_
 refine A0 (A7 rfl rfl rfl rfl rfl .nil) ?_
 try refine A1 ?_
 refine A0 (A5 rfl rfl rfl rfl rfl (A3 rfl rfl rfl (AO rfl (kn rfl) sle_22) (A5 rfl rfl rfl rfl rfl (A3 rfl rfl rfl (A4 rfl (kn rfl) (kn rfl) E4) .nil)))) ?_
 try refine A1 ?_
 refine AC rfl (fun h=>?_) (fun h=>?_)
 ·have h1:m<l.length:=by have:=of_decide_eq_true h;omega
  try refine A1 ?_
  refine A0 (A7 rfl rfl rfl rfl rfl .nil) ?_
  try refine A1 ?_
  exact AM rfl rfl (.tmp (kn rfl) (.nil)) (O1 (by unfold I5;rw[decide_eq_true h1];rfl)) rfl
 have h1:¬ m<l.length:=by have:=of_decide_eq_false h;omega
 have h2:I5 l m n=l.any fun s=>decide (n<s.length):=by unfold I5;rw[decide_eq_false h1];rfl
 rw[h2]
 try refine A1 ?_
 refine A0 (A5 rfl rfl rfl rfl rfl (A3 rfl rfl rfl (AO rfl (kn rfl) sle_22) (A5 rfl rfl rfl rfl rfl .nil))) ?_
 try refine A1 ?_
 refine B7 (ι:={ k:Nat // k<=l.length/\(l.any fun s=>decide (n<s.length))=((l.drop k).any fun s=>decide (n<s.length)) })
  (fun k=>[(2,.part (iP (n:Int))),(13,.part (.one (txD l))),(14,BR (l.length:Int)),(15,BR (k.1:Int))])
  (fun _=>[]) (fun _=>[]) (fun k=>l.length-k.1) ⟨0,by omega,rfl⟩
  (fun K=>AE ⟨s_t,s_t,s_t,s_t,trivial⟩ trivial trivial) ?_
 rintro⟨k,hk,hp⟩
 dsimp only at hk hp ⊢
 try refine A1 ?_
 refine A0 (A3 rfl rfl rfl (A4 rfl (kn rfl) (kn rfl) B9) .nil) ?_
 try refine A1 ?_
 refine AC rfl (fun h=>?_) (fun h=>?_)
 ·have hlt:k<l.length:=by have:=of_decide_eq_true h;omega
  obtain⟨x,hx⟩:∃ x,l[k]?=some x:=⟨_,List.getElem?_eq_getElem hlt⟩
  have hd:l.drop k=x::l.drop (k+1):=by rw[List.drop_eq_getElem_cons hlt,List.getElem?_eq_getElem hlt]at *;rw[Option.some.inj hx]
  rw[hd,List.any_cons]at hp
  try refine A1 ?_
  refine A0 (A3 rfl rfl rfl (AH rfl (kn rfl) (kn rfl) (by omega) hx E9 sle_22 esz_22 rfl) (A3 rfl rfl rfl (A8 rfl (kn rfl) one_9) (A7 rfl rfl rfl rfl rfl .nil))) ?_
  try refine A1 ?_
  refine A0 (A5 rfl rfl rfl rfl rfl (A3 rfl rfl rfl (RW rfl (kn rfl) str_9) (A5 rfl rfl rfl rfl rfl (A3 rfl rfl rfl (A4 rfl (kn rfl) (kn rfl) E4) .nil)))) ?_
  try refine A1 ?_
  refine AC rfl (fun h1=>?_) (fun h1=>?_)
  ·have e:n<x.length:=by have:=of_decide_eq_true h1;omega
   try refine A1 ?_
   refine A0 (A7 rfl rfl rfl rfl rfl .nil) ?_
   try refine A1 ?_
   exact AM rfl rfl (.tmp (kn rfl) (.nil)) (O1 (by rw[hp,decide_eq_true e,Bool.true_or])) rfl
  have e:¬ n<x.length:=by have:=of_decide_eq_false h1;omega
  rw[decide_eq_false e,Bool.false_or]at hp
  try refine A1 ?_
  refine A0 (A3 rfl rfl rfl (A4 rfl (kn rfl) (kn rfl) (A9 (by first | omega | (dsimp only;omega)))) (A5 rfl rfl rfl rfl rfl .nil)) ?_
  try refine A1 ?_
  refine AF ⟨k+1,by omega,hp⟩ (by dsimp only;omega) (fun K=>AE ⟨s_t,s_t,s_t,s_t,trivial⟩ trivial trivial)
 have hn:¬ k<l.length:=by have:=of_decide_eq_false h;omega
 try refine A1 ?_
 refine A0 (A7 rfl rfl rfl rfl rfl .nil) ?_
 try refine A1 ?_
 exact AM rfl rfl (.tmp (kn rfl) (.nil)) (O1 (by rw[hp,List.drop_eq_nil_of_le (by omega)];rfl)) rfl
structure Few (L:List (List Tx)):Prop where
 n:L.length<=1000
 each:∀ m∈L,m.length<=1000
theorem HZ:∀ (r:List (List Tx)) (l:List Tx),(∀ m∈r,m.length<=1000)->(BB l r).length<=l.length+1000*r.length
 | [],l,_=>by simp[BB]
 | m::r,l,h=>by
  have h1:=HZ r (BE l m) fun x hx=>h x (List.mem_cons_of_mem _ hx)
  have h2:=I8 m l
  have h3:=h m List.mem_cons_self
  simp only[BB,List.length_cons]
  omega
theorem Few.known{L:List (List Tx)}(h:Few L){i j:Nat}{m:List Tx}(hi:i<=L.length)(hm:m.length<=1000):(BE (BB [] (L.take i)) (m.take j)).length<=1001000:=by
 have h1:=HZ (L.take i) [] fun x hx=>h.each x (List.mem_of_mem_take hx)
 have h2:=I8 (m.take j) (BB [] (L.take i))
 rw[List.length_take]at h1 h2
 have:=h.n
 simp only[List.length_nil]at h1
 omega
theorem EZ{α:Type}{l l':List α}{x:α}(h:l'=l++[x]):l.length+1=l'.length:=by rw[h];simp
theorem QA{l l':List Tx}{x:Tx}(h:l'=l++[x]):l.flatMap sD1++sD1 x=l'.flatMap sD1:=by rw[h];simp
theorem L4{l l':List Nat}{x:Nat}(h:l'=l++[x]):l.flatMap iD1++iD1 x=l'.flatMap iD1:=by rw[h];simp
theorem OJ{l l':List (List Nat)}{x:List Nat}(h:l'=l++[x]):l.flatMap GD++GD x=l'.flatMap GD:=by rw[h];simp
theorem PR(s:Tx):sD1 s=[sC s]:=rfl
theorem K7{α:Type}{f:α->List Dat}{g:α->Dat}(hf:∀ a,f a=[g a]):∀ {l:List α} {k:Nat} {x:α},l[k]?=some x->(l.flatMap f)[(k:Int).toNat*1]?=some (g x)
 | [],_,_,h=>by simp at h
 | y::l,0,x,h=>by
  obtain rfl:y=x:=by simpa using h
  rw[List.flatMap_cons,hf]
  rfl
 | y::l,k+1,x,h=>by
  have:=K7 hf (l:=l) (k:=k) (x:=x) (by simpa using h)
  rw[List.flatMap_cons,hf]
  simpa using this
set_option maxHeartbeats 1000000 in
theorem MR(L:List (List Tx))(hL:Few L):EF Try.prog [] 14 [.one (HA L)] (.part (.one (NB (CV [] L)))):=by
 have hLn:=hL.n
 refine AU 59 Try.func14 rfl rfl rfl fun w D=>?_
 try refine A1 ?_
 refine A0 (A7 rfl rfl rfl rfl rfl .nil) ?_
 try refine A1 ?_
 refine AG ?_
 refine C7 100 rfl rfl rfl rfl sl_22 ap_22 rfl rfl ?_
 refine B5 ?_
 refine AA ?_
 try refine A1 ?_
 refine AG ?_
 refine C7 101 rfl rfl rfl rfl sl_35 ap_35 rfl rfl ?_
 refine B5 ?_
 refine AA ?_
 try refine A1 ?_
 refine A0 (A5 rfl rfl rfl rfl rfl (A3 rfl rfl rfl (AO rfl (kn rfl) sle_43) (A5 rfl rfl rfl rfl rfl .nil))) ?_
 try refine A1 ?_
 refine B7 (ι:={ i:Nat // i<=L.length })
  (fun i=>[(3,.own 100),(4,.own 101),(13,.part (.one (HA L))),(14,BR (L.length:Int)),(15,BR (i.1:Int))])
  (fun _=>[]) (fun i=>[(100,⟨9,1,(BB [] (L.take i.1)).length,(BB [] (L.take i.1)).flatMap sD1,false⟩),(101,⟨41,1,(CV [] (L.take i.1)).length,(CV [] (L.take i.1)).flatMap GD,false⟩)]) (fun i=>L.length-i.1) ⟨0,by omega⟩
  (fun K=>AE ⟨s_t,s_t,s_t,s_t,s_t,trivial⟩ trivial ⟨rfl,rfl,trivial⟩) ?_
 rintro⟨i,hi⟩
 dsimp only at hi ⊢
 try refine A1 ?_
 refine A0 (A3 rfl rfl rfl (A4 rfl (kn rfl) (kn rfl) B9) .nil) ?_
 try refine A1 ?_
 refine AC rfl (fun h=>?_) (fun h=>?_)
 ·have hlt:i<L.length:=by have:=of_decide_eq_true h;omega
  obtain⟨m,hm⟩:∃ m,L[i]?=some m:=⟨_,List.getElem?_eq_getElem hlt⟩
  have hmn:=hL.each m (List.mem_of_getElem? hm)
  have hnl:(CV [] (L.take i)).length=i:=by rw[GU,List.length_take];omega
  have hns:=I7 (L.take i) m []
  have hks:=HL (L.take i) m []
  rw[<- E8 hm]at hns hks
  try refine A1 ?_
  refine A0 (A3 rfl rfl rfl (AH rfl (kn rfl) (kn rfl) (by omega) hm JH sle_43 esz_43 rfl) (A3 rfl rfl rfl (A8 rfl (kn rfl) one_22) (A7 rfl rfl rfl rfl rfl .nil))) ?_
  try refine A1 ?_
  refine AG ?_
  refine C7 102 rfl rfl rfl rfl sl_41 ap_41 rfl rfl ?_
  refine B5 ?_
  refine AA ?_
  try refine A1 ?_
  refine A0 (A5 rfl rfl rfl rfl rfl (A3 rfl rfl rfl (AO rfl (kn rfl) sle_22) (A5 rfl rfl rfl rfl rfl .nil))) ?_
  try refine A1 ?_
  refine B7 (ι:={ j:Nat // j<=m.length })
   (fun j=>[(3,.own 100),(4,.own 101),(7,.own 102),(13,.part (.one (HA L))),(14,BR (L.length:Int)),(15,BR (i:Int)),(20,.part (.one (txD m))),(21,BR (m.length:Int)),(22,BR (j.1:Int))])
   (fun _=>[]) (fun j=>[(100,⟨9,1,(BE (BB [] (L.take i)) (m.take j.1)).length,(BE (BB [] (L.take i)) (m.take j.1)).flatMap sD1,false⟩),(101,⟨41,1,(CV [] (L.take i)).length,(CV [] (L.take i)).flatMap GD,false⟩),(102,⟨3,1,(C6 (BB [] (L.take i)) (m.take j.1)).length,(C6 (BB [] (L.take i)) (m.take j.1)).flatMap iD1,false⟩)]) (fun j=>m.length-j.1) ⟨0,by omega⟩
   (fun K=>AE ⟨s_t,s_t,s_t,s_t,s_t,s_t,s_t,s_t,s_t,trivial⟩ trivial ⟨rfl,rfl,rfl,trivial⟩) ?_
  rintro⟨j,hj⟩
  dsimp only at hj ⊢
  try refine A1 ?_
  refine A0 (A3 rfl rfl rfl (A4 rfl (kn rfl) (kn rfl) B9) .nil) ?_
  try refine A1 ?_
  refine AC rfl (fun h=>?_) (fun h=>?_)
  ·have hjl:j<m.length:=by have:=of_decide_eq_true h;omega
   obtain⟨s,hs⟩:∃ s,m[j]?=some s:=⟨_,List.getElem?_eq_getElem hjl⟩
   have hkn:=hL.known (j:=j) hi hmn
   have hk1:=HN (m.take j) s (BB [] (L.take i))
   have hn1:=HV (m.take j) s (BB [] (L.take i))
   rw[<- E8 hs]at hk1 hn1
   have hnl:(C6 (BB [] (L.take i)) (m.take j)).length<=1000:=by rw[E1,List.length_take];omega
   generalize hK:BE (BB [] (L.take i)) (m.take j)=kw at hkn hk1 hn1 ⊢
   generalize C6 (BB [] (L.take i)) (m.take j)=ns at hn1 hnl ⊢
   have hpl:=IU s kw
   try refine A1 ?_
   refine A0 (A3 rfl rfl rfl (AH rfl (kn rfl) (kn rfl) (by omega) hs E9 sle_22 esz_22 rfl) (A3 rfl rfl rfl (A8 rfl (kn rfl) one_9) (A7 rfl rfl rfl rfl rfl .nil))) ?_
   try refine A1 ?_
   refine A0 (A7 rfl rfl rfl rfl rfl .nil) ?_
   try refine A1 ?_
   refine B7 (ι:={ k:Nat // k<=pos s kw })
    (fun k=>[(3,.own 100),(4,.own 101),(7,.own 102),(9,.part (sP s)),(10,BR (k.1:Int)),(13,.part (.one (HA L))),(14,BR (L.length:Int)),(15,BR (i:Int)),(20,.part (.one (txD m))),(21,BR (m.length:Int)),(22,BR (j:Int))])
    (fun _=>[]) (fun _=>[(100,⟨9,1,kw.length,kw.flatMap sD1,false⟩),(101,⟨41,1,(CV [] (L.take i)).length,(CV [] (L.take i)).flatMap GD,false⟩),(102,⟨3,1,ns.length,ns.flatMap iD1,false⟩)]) (fun k=>kw.length-k.1) ⟨0,by omega⟩
    (fun K=>AE ⟨s_t,s_t,s_t,s_t,s_t,s_t,s_t,s_t,s_t,s_t,s_t,trivial⟩ trivial ⟨rfl,rfl,rfl,trivial⟩) ?_
   rintro⟨k,hk⟩
   dsimp only at hk ⊢
   obtain⟨x,hx⟩:∃ x,k<kw.length->kw[k]?=some x:=⟨kw.getD k [],fun h=>by rw[List.getD_eq_getElem?_getD,List.getElem?_eq_getElem h];rfl⟩
   try refine A1 ?_
   refine A0 (A5 rfl rfl rfl rfl rfl (A5 rfl rfl rfl rfl rfl (A3 rfl rfl rfl (C0 rfl (kn rfl) rfl sle_22) (A3 rfl rfl rfl (A4 rfl (kn rfl) (kn rfl) B9) (A5 rfl rfl rfl rfl rfl (Walk.gd _ rfl rfl rfl (fun h=>A6 rfl (kn rfl)) (Walk.gd _ rfl rfl rfl (fun h=>A6 rfl (kn rfl)) (Walk.gd _ rfl rfl rfl (fun h=>AK (z:=(k:Int)) rfl (A2 rfl h) rfl (A2 rfl h) ⟨by omega,of_decide_eq_true h⟩ sle_22 esz_22) (Walk.gd _ rfl rfl rfl (fun h=>AT rfl (A2 rfl h) rfl (K7 PR (hx (by have h':(k:Int)<(kw.length:Int):=of_decide_eq_true h;omega))) one_9) (Walk.gd _ rfl rfl rfl (fun h=>A6 rfl (kn rfl)) (Walk.gd _ rfl rfl rfl (fun h=>A4 rfl (A2 rfl h) (A2 rfl h) (P0)) (A3 rfl rfl rfl (BH rfl (kn rfl) (fun hb=>A2 rfl hb)) .nil)))))))))))) ?_
   try refine A1 ?_
   refine AC rfl (fun h=>?_) (fun h=>?_)
   ·have hkp:k<pos s kw:=by
     simp only[Bool.and_eq_true,decide_eq_true_eq,Bool.not_eq_true',decide_eq_false_iff_not]at h
     have h0:(k:Int)<(kw.length:Int):=h.1
     have h1:=GJ s kw k x (hx (by omega)) hk
     have h3:¬ k=pos s kw:=fun e=>h.2 (h1.2 e)
     omega
    try refine A1 ?_
    refine A0 (A5 rfl rfl rfl rfl rfl (A3 rfl rfl rfl (A4 rfl (kn rfl) (kn rfl) (A9 (by first | omega | (dsimp only;omega)))) (A7 rfl rfl rfl rfl rfl .nil))) ?_
    try refine A1 ?_
    refine AF ⟨k+1,by omega⟩ (by dsimp only;omega) (fun K=>AE ⟨s_t,s_t,s_t,s_t,s_t,s_t,s_t,s_t,s_t,s_t,s_t,trivial⟩ trivial ⟨rfl,rfl,rfl,trivial⟩)
   have hkp:k=pos s kw:=by
    rcases Nat.lt_or_ge k kw.length with h1 | h1
    ·replace h:(decide ((k:Int)<(kw.length:Int)) && !decide (x=s))=false:=h
     simp only[decide_eq_true (show(k:Int)<(kw.length:Int) by omega),Bool.true_and,Bool.not_eq_false',decide_eq_true_eq]at h
     exact(GJ s kw k x (hx h1) hk).1 h
    ·omega
   subst hkp
   try refine A1 ?_
   refine A0 (A5 rfl rfl rfl rfl rfl (A5 rfl rfl rfl rfl rfl (A3 rfl rfl rfl (C0 rfl (kn rfl) rfl sle_22) (A3 rfl rfl rfl (A4 rfl (kn rfl) (kn rfl) B4) .nil)))) ?_
   try refine A1 ?_
   refine AC rfl (fun h=>?_) (fun h=>?_)
   ·have hk2:CG kw s=kw++[s]:=if_neg (by have h':((pos s kw:Nat):Int)=(kw.length:Int):=of_decide_eq_true h;omega)
    rw[hk2]at hk1
    try refine A1 ?_
    refine AG ?_
    refine AI ?_
    refine AI ?_
    refine AJ (AD (ds:=[_]) [(0,_)] rfl ⟨rfl,(kn rfl),trivial⟩ rfl sl_22 sz_9 zr_9 (fun w D=>.cons (.cell _) (.nil _ _)) rfl rfl rfl rfl rfl) ?_
    refine AW rfl rfl rfl rfl (kn rfl) rfl (kn rfl) sl_22 ap_22 rfl rfl (by omega) (by omega) ?_
    refine BG (EZ hk1) (QA hk1) ?_
    refine B5 ?_
    refine AA ?_
    try refine A1 ?_
    refine AG ?_
    refine AI ?_
    refine AI ?_
    refine AJ (AD (ds:=[_]) [(0,_)] rfl ⟨rfl,(kn rfl),trivial⟩ rfl sl_41 sz_3 zr_3 (fun w D=>.cons (.cell _) (.nil _ _)) rfl rfl rfl rfl rfl) ?_
    refine AW rfl rfl rfl rfl (kn rfl) rfl (kn rfl) sl_41 ap_41 rfl rfl (by omega) (by omega) ?_
    refine BG (EZ hn1) (L4 hn1) ?_
    refine B5 ?_
    refine AA ?_
    try refine A1 ?_
    refine A0 (A3 rfl rfl rfl (A4 rfl (kn rfl) (kn rfl) (A9 (by first | omega | (dsimp only;omega)))) (A5 rfl rfl rfl rfl rfl .nil)) ?_
    try refine A1 ?_
    refine AF ⟨j+1,by omega⟩ (by dsimp only;omega) (fun K=>AE ⟨s_t,s_t,s_t,s_t,s_t,s_t,s_t,s_t,s_t,trivial⟩ trivial ⟨rfl,rfl,rfl,trivial⟩)
   ·have hk2:CG kw s=kw:=if_pos (by have h':¬ ((pos s kw:Nat):Int)=(kw.length:Int):=of_decide_eq_false h;omega)
    rw[hk2]at hk1
    try refine A1 ?_
    refine AG ?_
    refine AI ?_
    refine AI ?_
    refine AJ (AD (ds:=[_]) [(0,_)] rfl ⟨rfl,(kn rfl),trivial⟩ rfl sl_41 sz_3 zr_3 (fun w D=>.cons (.cell _) (.nil _ _)) rfl rfl rfl rfl rfl) ?_
    refine AW rfl rfl rfl rfl (kn rfl) rfl (kn rfl) sl_41 ap_41 rfl rfl (by omega) (by omega) ?_
    refine BG (EZ hn1) (L4 hn1) ?_
    refine B5 ?_
    refine AA ?_
    try refine A1 ?_
    refine A0 (A3 rfl rfl rfl (A4 rfl (kn rfl) (kn rfl) (A9 (by first | omega | (dsimp only;omega)))) (A5 rfl rfl rfl rfl rfl .nil)) ?_
    try refine A1 ?_
    refine AF ⟨j+1,by omega⟩ (by dsimp only;omega) (fun K=>AE ⟨s_t,s_t,s_t,s_t,s_t,s_t,s_t,s_t,s_t,trivial⟩ trivial ⟨(by dsimp only;rw[hk1];rfl),rfl,rfl,trivial⟩)
  have hjm:m.take j=m:=List.take_of_length_le (by have:=of_decide_eq_false h;omega)
  rw[hjm,<- hks]
  try refine A1 ?_
  refine AL 7 102 rfl rfl rfl ?_
  refine AG ?_
  refine AI ?_
  refine AI ?_
  refine AJ (AD (ds:=[_]) [(0,_)] rfl ⟨rfl,(kn rfl),trivial⟩ rfl sl_35 sz_41 zr_41 (fun w D=>.cons (.cell _) (.nil _ _)) rfl rfl rfl rfl rfl) ?_
  refine AW rfl rfl rfl rfl (kn rfl) rfl (kn rfl) sl_35 ap_35 rfl rfl (by omega) (by omega) ?_
  refine BG (EZ hns) (OJ hns) ?_
  refine B5 ?_
  refine AA ?_
  try refine A1 ?_
  refine A0 (A3 rfl rfl rfl (A4 rfl (kn rfl) (kn rfl) (A9 (by first | omega | (dsimp only;omega)))) (A5 rfl rfl rfl rfl rfl .nil)) ?_
  try refine A1 ?_
  refine AF ⟨i+1,by omega⟩ (by dsimp only;omega) (fun K=>AE ⟨s_t,s_t,s_t,s_t,s_t,trivial⟩ trivial ⟨rfl,rfl,trivial⟩)
 try refine A1 ?_
 refine AL 4 101 rfl rfl rfl ?_
 refine A0 (A5 rfl rfl rfl rfl rfl (A7 rfl rfl rfl rfl rfl .nil)) ?_
 try refine A1 ?_
 exact AM rfl rfl (.tmp (kn rfl) (.nil)) (Imp.of_eq (by rw[List.take_of_length_le (by have:=of_decide_eq_false h;omega)];rfl)) rfl
end Go.Proofs.Ytmhhdoaiccahaaa
