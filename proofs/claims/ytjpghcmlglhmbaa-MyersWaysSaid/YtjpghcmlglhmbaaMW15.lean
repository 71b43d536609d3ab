/- Part 15. Conditions: as each theorem says. -/
import Derived.Test.YtjpghcmlglhmbaaMW14
import Derived.Test.YtjpghcmlglhmbaaProg
set_option maxRecDepth 100000
namespace Go.Proofs.Ytjpghcmlglhmbaa
open Go.RowKit
theorem KJ{k c:Int}(t:Td)(h:B9 (k,c)=false):td1 t k c.toNat=t:=by
 unfold td1
 by_cases h0:c.toNat=0
 ·rw[if_pos h0]
 ·have:¬ (1<=k/\k<=3):=fun hk=>by
   have:B9 (k,c)=true:=B3.2 ⟨hk,by dsimp only;omega⟩
   rw[this]at h;cases h
  rw[if_neg h0,if_neg (by omega),if_neg (by omega),if_neg (by omega)]
theorem GP(t:Td):AW (fl t)=B8 (B8 (AW t.1) 2 (t.2.1:Int)) 3 (t.2.2:Int):=by
 unfold fl
 rw[BT,BT]
theorem KP{t:Td}{c:Nat}(h:c≠0):td1 t 1 c=(fl t++List.replicate c 1,0,0):=by unfold td1;rw[if_neg h,if_pos rfl]
theorem KT{t:Td}{c:Nat}(h:c≠0):td1 t 2 c=(t.1,t.2.1+c,t.2.2):=by unfold td1;rw[if_neg h,if_neg (by decide),if_pos rfl]
theorem KH{t:Td}{c:Nat}(h:c≠0):td1 t 3 c=(t.1,t.2.1,t.2.2+c):=by unfold td1;rw[if_neg h,if_neg (by decide),if_neg (by decide),if_pos rfl]
theorem H1{t:Td}{n:Nat}(h:(fl t).length<=n)(hn:n<=3000000):Sm (AW t.1)/\Sm (B8 (AW t.1) 2 (t.2.1:Int))/\Sm (B8 (B8 (AW t.1) 2 (t.2.1:Int)) 3 (t.2.2:Int))/\(AW t.1).length<=n/\t.2.1<=n/\t.2.2<=n:=by
 rw[CN]at h
 have h1:=BT t.1 2 t.2.1
 have h2:=GP t
 have h3:=EA t.1
 rw[<- h1,<- h2]at *
 exact⟨D2 _ (by omega),D2 _ (by simp only[List.length_append,List.length_replicate];omega),D2 _ (by rw[CN];omega),by omega,by omega,by omega⟩
abbrev pT(rs:List Rn)(t:Td)(i:Nat):TL:=[(3,.own 1000),(4,zI (t.2.1:Int)),(5,zI (t.2.2:Int)),(8,.part (.one (BH rs))),(9,zI (rs.length:Int)),(10,zI (i:Int))]
set_option maxHeartbeats 4000000 in
theorem LX(rs:List Rn)(hrs:rs.length<=1000)(hc:∀ p∈rs,p.2<=200):EF Try.prog [] 17 [.one (BH rs)] (.part (.one (BH (DC rs)))):=by
 have htid:DC rs=AW (fl (td ([],0,0) rs)):=rfl
 refine AL 47 Try.func17 rfl rfl rfl fun w D=>?_
 try refine A1 ?_
 refine A0 (A6 rfl rfl rfl rfl rfl .nil) ?_
 try refine A1 ?_
 refine A0 (A6 rfl rfl rfl rfl rfl .nil) ?_
 try refine A1 ?_
 refine BY 3 1000 45 2 rfl rfl rfl ?_
 refine A0 (A6 rfl rfl rfl rfl rfl (A6 rfl rfl rfl rfl rfl .nil)) ?_
 try refine A1 ?_
 refine A0 (A5 rfl rfl rfl rfl rfl (A3 rfl rfl rfl (AN rfl (kn rfl) sle_28) (A5 rfl rfl rfl rfl rfl .nil))) ?_
 try refine A1 ?_
 refine BC (ι:={ i:Nat // i<=rs.length })
  (fun i=>pT rs (td ([],0,0) (rs.take i.1)) i.1)
  (fun _=>[]) (fun i=>[(1000,rnW (AW (td ([],0,0) (rs.take i.1)).1))]) (fun i=>rs.length-i.1) ⟨0,Nat.zero_le _⟩
  (fun K=>AH ⟨s_t,s_t,s_t,s_t,s_t,s_t,trivial⟩ trivial ⟨rfl,trivial⟩) ?_
 rintro⟨i,hi⟩
 dsimp only at hi ⊢
 have hlen:(fl (td ([],0,0) (rs.take i))).length<=200000:=by
  have:=GW (n:=200) (rs.take i) ([],0,0) fun p hp=>hc p (List.mem_of_mem_take hp)
  rw[List.length_take]at this
  have h0:(fl ([],0,0)).length=0:=rfl
  omega
 try refine A1 ?_
 refine A0 (A3 rfl rfl rfl (A4 rfl (kn rfl) (kn rfl) BU) .nil) ?_
 try refine A1 ?_
 refine AC rfl (fun h=>?_) (fun h=>?_)
 ·have hlt:=ltd h
  obtain⟨⟨k,c⟩,hp⟩:∃ p,rs[i]?=some p:=⟨_,List.getElem?_eq_getElem hlt⟩
  have hnext:=IY hp ([],0,0)
  have hcc:c<=200:=hc _ (List.mem_of_getElem? hp)
  have hri:=FE (k,c)
  simp only at hnext
  generalize td ([],0,0) (rs.take i)=t at hlen hnext ⊢
  obtain⟨m1,m2,m3,l1,l2,l3⟩:=H1 hlen (by omega)
  try refine A1 ?_
  refine AF ?_
  refine AK (AR rfl (kn rfl) (kn rfl) (by omega) hp BO sle_28 esz_28 rfl) ?_
  refine AK (B6 rfl (kn rfl) agg_45 sz_45) ?_
  refine CF 7 [.is (.int .i64 0),.is (.int .i64 0)] rfl rfl rfl rfl zr_45 (fun w D M V=>⟨rfl,fun j x v h1 h2=>CH _ h1 h2 rfl⟩) rfl rfl rfl rfl ?_
  refine BV rfl rfl rfl (kn rfl) rfl (kn rfl) rfl rfl sz_45 ?_
  refine AD ?_
  try refine A1 ?_
  refine A0 (A3 rfl rfl rfl (BI (ds:=[_,_]) 2 rfl (kn rfl) rfl rfl agg_45 sz_45 rfl) (A3 rfl rfl rfl (AU rfl (by kernel_rfl) (hri) ⟨(kn rfl),trivial⟩) (A3 rfl rfl rfl (CX rfl (kn rfl)) .nil))) ?_
  try refine A1 ?_
  refine AC rfl (fun h1=>?_) (fun h1=>?_)
  ·rw[KJ t (by simpa using h1)]at hnext
   try refine A1 ?_
   refine A0 (A3 rfl rfl rfl (A4 rfl (kn rfl) (kn rfl) (AE (by first | omega | (dsimp only;omega)))) (A5 rfl rfl rfl rfl rfl .nil)) ?_
   try refine A1 ?_
   refine AO ⟨i+1,by omega⟩ (by dsimp only;omega) (fun K=>AH ⟨s_t,s_z rfl (by dsimp only;rw[hnext]),s_z rfl (by dsimp only;rw[hnext]),s_t,s_t,s_t,trivial⟩ trivial ⟨by dsimp only;rw[hnext];rfl,trivial⟩)
  have hr:B9 (k,c)=true:=by simpa using h1
  obtain⟨⟨k1,k2⟩,k3⟩:=B3.1 hr
  simp only at k1 k2 k3
  obtain⟨n,rfl⟩:∃ n:Nat,c=(n:Int):=⟨c.toNat,by omega⟩
  rw[Int.toNat_natCast]at hnext
  have hn0:n≠0:=by omega
  try refine A1 ?_
  refine A0 (A3 rfl rfl rfl (A8 rfl (kn rfl) off_45_0) (A3 rfl rfl rfl (A7 rfl (kn rfl) rfl rfl one_3) .nil)) ?_
  try refine A1 ?_
  refine A0 (A3 rfl rfl rfl (A4 rfl (kn rfl) (kn rfl) B2) (A6 rfl rfl rfl rfl rfl .nil)) ?_
  try refine A1 ?_
  refine AC rfl (fun h2=>?_) (fun h2=>?_)
  ·obtain rfl:=of_decide_eq_true h2
   rw[KT hn0]at hnext
   try refine A1 ?_
   refine A0 (A5 rfl rfl rfl rfl rfl (A3 rfl rfl rfl (A8 rfl (kn rfl) off_45_1) (A3 rfl rfl rfl (A7 rfl (kn rfl) rfl rfl one_3) (A3 rfl rfl rfl (A4 rfl (kn rfl) (kn rfl) (AE (by first | omega | (dsimp only;omega)))) (A6 rfl rfl rfl rfl rfl .nil))))) ?_
   try refine A1 ?_
   refine A0 (A3 rfl rfl rfl (A4 rfl (kn rfl) (kn rfl) (AE (by first | omega | (dsimp only;omega)))) (A5 rfl rfl rfl rfl rfl .nil)) ?_
   try refine A1 ?_
   refine AO ⟨i+1,by omega⟩ (by dsimp only;omega) (fun K=>AH ⟨s_t,s_z rfl (by dsimp only;rw[hnext];dsimp only;omega),s_z rfl (by dsimp only;rw[hnext]),s_t,s_t,s_t,trivial⟩ trivial ⟨by dsimp only;rw[hnext];rfl,trivial⟩)
  try refine A1 ?_
  refine A0 (A3 rfl rfl rfl (A4 rfl (kn rfl) (kn rfl) B2) (A6 rfl rfl rfl rfl rfl .nil)) ?_
  try refine A1 ?_
  refine AC rfl (fun h3=>?_) (fun h3=>?_)
  ·obtain rfl:=of_decide_eq_true h3
   rw[KH hn0]at hnext
   try refine A1 ?_
   refine A0 (A5 rfl rfl rfl rfl rfl (A3 rfl rfl rfl (A8 rfl (kn rfl) off_45_1) (A3 rfl rfl rfl (A7 rfl (kn rfl) rfl rfl one_3) (A3 rfl rfl rfl (A4 rfl (kn rfl) (kn rfl) (AE (by first | omega | (dsimp only;omega)))) (A6 rfl rfl rfl rfl rfl .nil))))) ?_
   try refine A1 ?_
   refine A0 (A3 rfl rfl rfl (A4 rfl (kn rfl) (kn rfl) (AE (by first | omega | (dsimp only;omega)))) (A5 rfl rfl rfl rfl rfl .nil)) ?_
   try refine A1 ?_
   refine AO ⟨i+1,by omega⟩ (by dsimp only;omega) (fun K=>AH ⟨s_t,s_z rfl (by dsimp only;rw[hnext]),s_z rfl (by dsimp only;rw[hnext];dsimp only;omega),s_t,s_t,s_t,trivial⟩ trivial ⟨by dsimp only;rw[hnext];rfl,trivial⟩)
  try refine A1 ?_
  refine A0 (A3 rfl rfl rfl (A4 rfl (kn rfl) (kn rfl) B2) (A6 rfl rfl rfl rfl rfl .nil)) ?_
  try refine A1 ?_
  obtain rfl:k=1:=by
   have:=of_decide_eq_false h2
   have:=of_decide_eq_false h3
   omega
  rw[KP hn0]at hnext
  refine J9 ?_
  have a1:=CL (AW t.1) 2 (t.2.1:Int) (by omega) m1 (by omega)
  have r1:=CV (AW t.1) 2 (t.2.1:Int)
  have a2:=CL _ 3 (t.2.2:Int) (show(B8 (AW t.1) 2 (t.2.1:Int)).length<=10000000 by omega) m2 (by omega)
  have r2':=CV (B8 (AW t.1) 2 (t.2.1:Int)) 3 (t.2.2:Int)
  have a3:=CL _ 1 (n:Int) (show(B8 (B8 (AW t.1) 2 (t.2.1:Int)) 3 (t.2.2:Int)).length<=10000000 by omega) m3 (by omega)
  have hfin:B8 (B8 (B8 (AW t.1) 2 (t.2.1:Int)) 3 (t.2.2:Int)) 1 (n:Int)=AW (fl t++List.replicate n 1):=by rw[BT,GP]
  rw[hfin]at a3
  try refine A1 ?_
  refine AH (T':=(7,.box 7 0)::pT rs t i) (B':=[(7,⟨45,[zI 1,zI (n:Int)]⟩)]) (R':=[(1000,rnW (AW t.1))]) ⟨s_t,s_t,s_t,s_t,s_t,s_t,s_t,trivial⟩ ⟨s_b,trivial⟩ ⟨rfl,trivial⟩ ?_
  refine DL 9 [[],[],[0,1],[],[2,3,2],[],[5],[4,6,4],[7,7,0,1,2,3,4,5,6,7]] [[false,false,false,false,false,false,false,false,false],[true,false,false,false,false,false,false,false,false],[false,true,false,false,false,false,false,false,false],[false,false,false,true,false,false,false,false,false],[false,false,false,false,false,true,false,false,false],[true,true,false,false,false,false,false,false,false],[true,false,false,true,false,false,false,false,false],[true,false,false,false,false,true,false,false,false],[false,true,false,true,false,false,false,false,false],[false,true,false,false,false,true,false,false,false],[false,false,false,true,false,true,false,false,false],[false,false,false,false,false,true,true,false,false],[true,true,true,false,false,false,false,false,false],[true,true,false,true,false,false,false,false,false],[true,true,false,false,false,true,false,false,false],[true,false,false,true,false,true,false,false,false],[true,false,false,false,false,true,true,false,false],[false,true,false,true,false,true,false,false,false],[false,true,false,false,false,true,true,false,false],[false,false,false,true,false,true,true,false,false],[true,true,true,true,false,false,false,false,false],[true,true,true,false,false,true,false,false,false],[true,true,false,true,false,true,false,false,false],[true,true,false,false,false,true,true,false,false],[true,false,false,true,false,true,true,false,false],[false,true,false,true,false,true,true,false,false],[true,true,true,true,true,false,false,false,false],[true,true,true,true,false,true,false,false,false],[true,true,true,false,false,true,true,false,false],[true,true,false,true,false,true,true,false,false],[true,true,true,true,true,true,false,false,false],[true,true,true,true,false,true,true,false,false],[true,true,true,true,true,true,true,false,false],[true,true,true,true,true,true,true,true,false],[true,true,true,true,true,true,true,true,true]] [([false,false,false,false,false,false,false,false,false],0),([false,false,false,false,false,false,false,false,false],1),([false,false,false,false,false,false,false,false,false],3),([false,false,false,false,false,false,false,false,false],5),([true,false,false,false,false,false,false,false,false],1),([true,false,false,false,false,false,false,false,false],3),([true,false,false,false,false,false,false,false,false],5),([false,true,false,false,false,false,false,false,false],0),([false,true,false,false,false,false,false,false,false],3),([false,true,false,false,false,false,false,false,false],5),([false,false,false,true,false,false,false,false,false],0),([false,false,false,true,false,false,false,false,false],1),([false,false,false,true,false,false,false,false,false],5),([false,false,false,false,false,true,false,false,false],0),([false,false,false,false,false,true,false,false,false],1),([false,false,false,false,false,true,false,false,false],3),([false,false,false,false,false,true,false,false,false],6),([true,true,false,false,false,false,false,false,false],2),([true,true,false,false,false,false,false,false,false],3),([true,true,false,false,false,false,false,false,false],5),([true,false,false,true,false,false,false,false,false],1),([true,false,false,true,false,false,false,false,false],5),([true,false,false,false,false,true,false,false,false],1),([true,false,false,false,false,true,false,false,false],3),([true,false,false,false,false,true,false,false,false],6),([false,true,false,true,false,false,false,false,false],0),([false,true,false,true,false,false,false,false,false],5),([false,true,false,false,false,true,false,false,false],0),([false,true,false,false,false,true,false,false,false],3),([false,true,false,false,false,true,false,false,false],6),([false,false,false,true,false,true,false,false,false],0),([false,false,false,true,false,true,false,false,false],1),([false,false,false,true,false,true,false,false,false],6),([false,false,false,false,false,true,true,false,false],0),([false,false,false,false,false,true,true,false,false],1),([false,false,false,false,false,true,true,false,false],3),([true,true,true,false,false,false,false,false,false],3),([true,true,true,false,false,false,false,false,false],5),([true,true,false,true,false,false,false,false,false],2),([true,true,false,true,false,false,false,false,false],5),([true,true,false,false,false,true,false,false,false],2),([true,true,false,false,false,true,false,false,false],3),([true,true,false,false,false,true,false,false,false],6),([true,false,false,true,false,true,false,false,false],1),([true,false,false,true,false,true,false,false,false],6),([true,false,false,false,false,true,true,false,false],1),([true,false,false,false,false,true,true,false,false],3),([false,true,false,true,false,true,false,false,false],0),([false,true,false,true,false,true,false,false,false],6),([false,true,false,false,false,true,true,false,false],0),([false,true,false,false,false,true,true,false,false],3),([false,false,false,true,false,true,true,false,false],0),([false,false,false,true,false,true,true,false,false],1),([true,true,true,true,false,false,false,false,false],4),([true,true,true,true,false,false,false,false,false],5),([true,true,true,false,false,true,false,false,false],3),([true,true,true,false,false,true,false,false,false],6),([true,true,false,true,false,true,false,false,false],2),([true,true,false,true,false,true,false,false,false],6),([true,true,false,false,false,true,true,false,false],2),([true,true,false,false,false,true,true,false,false],3),([true,false,false,true,false,true,true,false,false],1),([false,true,false,true,false,true,true,false,false],0),([true,true,true,true,true,false,false,false,false],5),([true,true,true,true,false,true,false,false,false],4),([true,true,true,true,false,true,false,false,false],6),([true,true,true,false,false,true,true,false,false],3),([true,true,false,true,false,true,true,false,false],2),([true,true,true,true,true,true,false,false,false],6),([true,true,true,true,false,true,true,false,false],4),([true,true,true,true,true,true,true,false,false],7),([true,true,true,true,true,true,true,true,false],8)] [(8,3,.own 1000),(7,37,.junk),(7,40,.own 1000),(4,35,.junk),(4,37,.own 1000),(2,33,.junk),(2,3,.junk),(2,35,.own 1000),(0,33,.own 1000),(1,34,zI (t.2.1:Int)),(3,36,zI (t.2.2:Int)),(5,38,.box 7 1),(6,39,zI (n:Int))] [] [(7,1000,rnW (AW (fl t++List.replicate n 1))),(4,1000,rnW (B8 (B8 (AW t.1) 2 (t.2.1:Int)) 3 (t.2.2:Int))),(2,1000,rnW (B8 (AW t.1) 2 (t.2.1:Int)))] [(7,.box 7 0),(3,.own 1000),(4,zI (t.2.1:Int)),(5,zI (t.2.2:Int)),(8,.part (.one (BH rs))),(9,zI (rs.length:Int)),(10,zI (i:Int))] [(7,⟨45,[zI 1,zI (n:Int)]⟩)] [(1000,rnW (AW t.1))] (by kernel_rfl) rfl CB (by kernel_rfl) (by decide) (fun K h=>h) ?_ ?_
  ·repeat' first
    | exact trivial
    | refine And.intro ?_ ?_
   all_goals
    intro K hK
    replace hK:=J2 (J3 (LJ hK))
    first
     | (refine AY (i:=0) rfl (fun h=>h) ?_;refine AM ?_;refine AD ?_;refine A1 ?_;exact AS hK (by repeat' first | exact trivial | refine And.intro s_t ?_) (by repeat' first | exact trivial | refine And.intro s_b ?_) (by repeat' first | exact trivial | refine And.intro rfl ?_))
     | (refine AY (i:=1) rfl (fun h=>h) ?_;refine AM ?_;refine AD ?_;refine A1 ?_;exact AS hK (by repeat' first | exact trivial | refine And.intro s_t ?_) (by repeat' first | exact trivial | refine And.intro s_b ?_) (by repeat' first | exact trivial | refine And.intro rfl ?_))
     | (refine AY (i:=2) rfl (fun h=>h) ?_;refine BG rfl rfl rfl rfl (by kernel_rfl) (a1) trivial ⟨rfl,trivial⟩ ⟨(kn rfl),⟨(kn rfl),⟨(kn rfl),trivial⟩⟩⟩ (YA.tidy) ?_;rintro _ _ _ ⟨rfl,rfl,rfl⟩;refine AD ?_;refine A1 ?_;exact AS hK (by repeat' first | exact trivial | refine And.intro s_t ?_) (by repeat' first | exact trivial | refine And.intro s_b ?_) (by repeat' first | exact trivial | refine And.intro rfl ?_))
     | (refine AY (i:=3) rfl (fun h=>h) ?_;refine AM ?_;refine AD ?_;refine A1 ?_;exact AS hK (by repeat' first | exact trivial | refine And.intro s_t ?_) (by repeat' first | exact trivial | refine And.intro s_b ?_) (by repeat' first | exact trivial | refine And.intro rfl ?_))
     | (refine AY (i:=4) rfl (fun h=>h) ?_;refine BG rfl rfl rfl rfl (by kernel_rfl) (a2) trivial ⟨rfl,trivial⟩ ⟨(kn rfl),⟨(kn rfl),⟨(kn rfl),trivial⟩⟩⟩ (YA.tidy) ?_;rintro _ _ _ ⟨rfl,rfl,rfl⟩;refine AD ?_;refine A1 ?_;exact AS hK (by repeat' first | exact trivial | refine And.intro s_t ?_) (by repeat' first | exact trivial | refine And.intro s_b ?_) (by repeat' first | exact trivial | refine And.intro rfl ?_))
     | (refine AY (i:=5) rfl (fun h=>h) ?_;refine AK (A8 rfl (kn rfl) off_45_1) ?_;refine AD ?_;refine A1 ?_;exact AS hK (by repeat' first | exact trivial | refine And.intro s_t ?_) (by repeat' first | exact trivial | refine And.intro s_b ?_) (by repeat' first | exact trivial | refine And.intro rfl ?_))
     | (refine AY (i:=6) rfl (fun h=>h) ?_;refine AK (A7 rfl (kn rfl) rfl rfl one_3) ?_;refine AD ?_;refine A1 ?_;exact AS hK (by repeat' first | exact trivial | refine And.intro s_t ?_) (by repeat' first | exact trivial | refine And.intro s_b ?_) (by repeat' first | exact trivial | refine And.intro rfl ?_))
     | (refine AY (i:=7) rfl (fun h=>h) ?_;refine BG rfl rfl rfl rfl (by kernel_rfl) (a3) trivial ⟨rfl,trivial⟩ ⟨(kn rfl),⟨(kn rfl),⟨(kn rfl),trivial⟩⟩⟩ (YA.tidy) ?_;rintro _ _ _ ⟨rfl,rfl,rfl⟩;refine AD ?_;refine A1 ?_;exact AS hK (by repeat' first | exact trivial | refine And.intro s_t ?_) (by repeat' first | exact trivial | refine And.intro s_b ?_) (by repeat' first | exact trivial | refine And.intro rfl ?_))
     | (refine AY (i:=8) rfl (fun h=>h) ?_;refine B7 ?_;refine AD ?_;refine A1 ?_;exact AS hK (by repeat' first | exact trivial | refine And.intro s_t ?_) (by repeat' first | exact trivial | refine And.intro s_b ?_) (by repeat' first | exact trivial | refine And.intro rfl ?_))
  try refine A1 ?_
  refine A0 (A6 rfl rfl rfl rfl rfl (A6 rfl rfl rfl rfl rfl .nil)) ?_
  try refine A1 ?_
  refine A0 (A3 rfl rfl rfl (A4 rfl (kn rfl) (kn rfl) (AE (by first | omega | (dsimp only;omega)))) (A5 rfl rfl rfl rfl rfl .nil)) ?_
  try refine A1 ?_
  refine AO ⟨i+1,by omega⟩ (by dsimp only;omega) (fun K=>AH ⟨s_t,s_z rfl (by dsimp only;rw[hnext];rfl),s_z rfl (by dsimp only;rw[hnext];rfl),s_t,s_t,s_t,trivial⟩ trivial ⟨by dsimp only;rw[hnext];rfl,trivial⟩)
 rw[List.take_of_length_le (ltf h)]at hlen ⊢
 rw[htid]
 generalize td ([],0,0) rs=t at hlen ⊢
 obtain⟨m1,m2,m3,l1,l2,l3⟩:=H1 hlen (by omega)
 have a1:=CL (AW t.1) 2 (t.2.1:Int) (by omega) m1 (by omega)
 have r1:=CV (AW t.1) 2 (t.2.1:Int)
 have a2:=CL _ 3 (t.2.2:Int) (show(B8 (AW t.1) 2 (t.2.1:Int)).length<=10000000 by omega) m2 (by omega)
 rw[GP]
 try refine A1 ?_
 refine AF ?_
 refine AM ?_
 refine AM ?_
 refine BG rfl rfl rfl rfl (by kernel_rfl) (a1) trivial ⟨rfl,trivial⟩ ⟨(kn rfl),⟨(kn rfl),⟨(kn rfl),trivial⟩⟩⟩ (YA.tidy) ?_
 rintro _ _ _ ⟨rfl,rfl,rfl⟩
 refine AM ?_
 refine BG rfl rfl rfl rfl (by kernel_rfl) (a2) trivial ⟨rfl,trivial⟩ ⟨(kn rfl),⟨(kn rfl),⟨(kn rfl),trivial⟩⟩⟩ (YA.tidy) ?_
 rintro _ _ _ ⟨rfl,rfl,rfl⟩
 refine AJ 46 1000 rfl rfl rfl ?_
 refine B7 ?_
 refine AD ?_
 try refine A1 ?_
 exact AB rfl rfl (.tmp (kn rfl) (.nil)) (Imp.refl _) rfl
theorem NE{p q:Rn}:CS Try.prog .neq 39 (.agg #[.int .i64 p.1,.int .i64 p.2]) (.agg #[.int .i64 q.1,.int .i64 q.2]) (.bool (!decide (p=q))):=by
 have h:=MG (P:=Try.prog) (t:=39) (cs:=[.int .i64 p.1,.int .i64 p.2]) (ds:=[.int .i64 q.1,.int .i64 q.2]) (by kernel_rfl) (by kernel_rfl) (by kernel_rfl) (GS (ks:=[false,false]) (by kernel_rfl) (.int _ _ _ (.int _ _ _ .nil)))
 have e:HC ([Value.int .i64 p.1,Value.int .i64 p.2]=[Value.int .i64 q.1,Value.int .i64 q.2])=decide (p=q):=by
  have h1:([Value.int .i64 p.1,Value.int .i64 p.2]=[Value.int .i64 q.1,Value.int .i64 q.2])↔p=q:=by
   constructor
   ·intro h
    injection h with h1 h2
    injection h1 with _ h1
    injection h2 with h2 _
    injection h2 with _ h2
    exact Prod.ext h1 h2
   ·rintro rfl
    rfl
  by_cases hp:p=q
  ·rw[decide_eq_true hp]
   simp[HC,h1,hp]
  ·rw[decide_eq_false hp]
   simp[HC,h1,hp]
 rwa [e]at h
theorem K2{a b:List Rn}{k:Nat}{p q:Rn}(h:a.take k=b.take k)(hp:a[k]?=some p)(hq:b[k]?=some q):a.take (k+1)=b.take (k+1)↔p=q:=by
 rw[List.take_add_one,List.take_add_one,h,hp,hq]
 simp
theorem GL(a b:List Rn)(ha:a.length<=10000000)(hb:b.length<=10000000):EF Try.prog [] 10 [.one (BH a),.one (BH b)] (.part (bP (decide (a=b)))):=by
 refine AL 26 Try.func10 rfl rfl rfl fun w D=>?_
 try refine A1 ?_
 refine A0 (A6 rfl rfl rfl rfl rfl .nil) ?_
 try refine A1 ?_
 refine A0 (A5 rfl rfl rfl rfl rfl (A3 rfl rfl rfl (AN rfl (kn rfl) sle_28) (A5 rfl rfl rfl rfl rfl (A3 rfl rfl rfl (AN rfl (kn rfl) sle_30) (A3 rfl rfl rfl (A4 rfl (kn rfl) (kn rfl) DG) .nil))))) ?_
 try refine A1 ?_
 refine AC rfl (fun h=>?_) (fun h=>?_)
 ·try refine A1 ?_
  refine A0 (A6 rfl rfl rfl rfl rfl .nil) ?_
  try refine A1 ?_
  exact AB rfl rfl (.tmp (kn rfl) (.nil)) (CM (decide_eq_false fun e=>by subst e;simp at h).symm) rfl
 have hl:a.length=b.length:=by
  simp only[Bool.not_eq_false',decide_eq_true_eq]at h
  omega
 try refine A1 ?_
 refine A0 (A5 rfl rfl rfl rfl rfl (A3 rfl rfl rfl (AN rfl (kn rfl) sle_28) (A5 rfl rfl rfl rfl rfl .nil))) ?_
 try refine A1 ?_
 refine BC (ι:={ i:Nat // i<=a.length/\a.take i=b.take i })
  (fun i=>[(1,.part (.one (BH b))),(12,.part (.one (BH a))),(13,zI (a.length:Int)),(14,zI (i.1:Int))])
  (fun _=>[]) (fun _=>[]) (fun i=>a.length-i.1) ⟨0,Nat.zero_le _,rfl⟩
  (fun K=>AH ⟨s_t,s_t,s_t,s_t,trivial⟩ trivial trivial) ?_
 rintro⟨i,hi,ht⟩
 dsimp only at hi ht ⊢
 try refine A1 ?_
 refine A0 (A3 rfl rfl rfl (A4 rfl (kn rfl) (kn rfl) BU) .nil) ?_
 try refine A1 ?_
 refine AC rfl (fun h=>?_) (fun h=>?_)
 ·have hlt:=ltd h
  obtain⟨p,hp⟩:∃ p,a[i]?=some p:=⟨_,List.getElem?_eq_getElem hlt⟩
  obtain⟨q,hq⟩:∃ q,b[i]?=some q:=⟨_,List.getElem?_eq_getElem (by omega)⟩
  have he:=K2 ht hp hq
  try refine A1 ?_
  refine AF ?_
  refine AM ?_
  refine AK (AR rfl (kn rfl) (kn rfl) (by omega) hp BO sle_28 esz_28 rfl) ?_
  refine AK (B6 rfl (kn rfl) agg_45 sz_45) ?_
  refine CF 6 [.is (.int .i64 0),.is (.int .i64 0)] rfl rfl rfl rfl zr_45 (fun w D M V=>⟨rfl,fun j x v h1 h2=>CH _ h1 h2 rfl⟩) rfl rfl rfl rfl ?_
  refine B7 ?_
  refine BV rfl rfl rfl (kn rfl) rfl (kn rfl) rfl rfl sz_45 ?_
  refine AD ?_
  try refine A1 ?_
  refine CA CB (by kernel_rfl) (A3 rfl rfl rfl (BI (ds:=[_,_]) 2 rfl (kn rfl) rfl rfl agg_45 sz_45 rfl) (A5 rfl rfl rfl rfl rfl (A5 rfl rfl rfl rfl rfl (A3 rfl rfl rfl (AR rfl (kn rfl) (kn rfl) (by omega) hq BO sle_30 esz_30 rfl) (A3 rfl rfl rfl (B6 rfl (kn rfl) agg_39 sz_39) (A3 rfl rfl rfl (N4 (cs:=[.int .i64 p.1,.int .i64 p.2]) (ds:=[.int .i64 q.1,.int .i64 q.2]) rfl (kn rfl) (kn rfl) NE) .nil)))))) ?_
  try refine A1 ?_
  refine AC rfl (fun h1=>?_) (fun h1=>?_)
  ·try refine A1 ?_
   refine A0 (A6 rfl rfl rfl rfl rfl .nil) ?_
   try refine A1 ?_
   exact AB rfl rfl (.tmp (kn rfl) (.nil)) (CM (decide_eq_false fun e=>by subst e;have e1:=hp.symm.trans hq;injection e1 with e1;simp[e1]at h1).symm) rfl
  have h2:p=q:=by simpa using h1
  try refine A1 ?_
  refine A0 (A3 rfl rfl rfl (A4 rfl (kn rfl) (kn rfl) (AE (by first | omega | (dsimp only;omega)))) (A5 rfl rfl rfl rfl rfl .nil)) ?_
  try refine A1 ?_
  refine AO ⟨i+1,by omega,he.2 h2⟩ (by dsimp only;omega) (fun K=>AH ⟨s_t,s_t,s_t,s_t,trivial⟩ trivial trivial)
 rw[List.take_of_length_le (ltf h),List.take_of_length_le (by have:=ltf h;omega)]at ht
 try refine A1 ?_
 refine A0 (A6 rfl rfl rfl rfl rfl .nil) ?_
 try refine A1 ?_
 exact AB rfl rfl (.tmp (kn rfl) (.nil)) (CM (decide_eq_true ht).symm) rfl
def MD(l:List Rn):Prop:=∀ p∈l,p.2<=200
theorem J6{l:List Rn}{i:Nat}{k c:Int}(h:l[i]?=some (k,c)):(l.take i).flatMap rnD++[zC k,zC c]=(l.take (i+1)).flatMap rnD:=by
 rw[List.take_add_one,h]
 exact F0 _ _ _
theorem IQ{l:List Rn}{i:Nat}{p:Rn}(h:l[i]?=some p):(l.take i).length+1=(l.take (i+1)).length:=by
 rw[List.take_add_one,h]
 simp
theorem N3(l:List Rn)(hl:l.length<=8796093022208)(hf:MD l):EF Try.prog [] 15 [.one (BH l)] (.tup [.one (BH l),bP (decide ((l.length:Int)<=40))]):=by
 refine AL 26 Try.func15 rfl rfl rfl fun w D=>?_
 try refine A1 ?_
 refine A0 (A6 rfl rfl rfl rfl rfl (A6 rfl rfl rfl rfl rfl .nil)) ?_
 try refine A1 ?_
 refine AF ?_
 refine D4 1000 rfl rfl rfl rfl sl_30 ap_30 rfl rfl ?_
 refine B7 ?_
 refine AD ?_
 try refine A1 ?_
 refine A0 (A5 rfl rfl rfl rfl rfl (A3 rfl rfl rfl (AN rfl (kn rfl) sle_28) (A5 rfl rfl rfl rfl rfl .nil))) ?_
 try refine A1 ?_
 refine BC (ι:={ i:Nat // i<=l.length /\ ∀ p∈l.take i,p.2<=200 })
  (fun i=>[(0,.part (.one (BH l))),(4,.own 1000),(8,.part (.one (BH l))),(9,zI (l.length:Int)),(10,zI (i.1:Int))])
  (fun _=>[]) (fun i=>[(1000,⟨39,2,(l.take i.1).length,(l.take i.1).flatMap rnD,false⟩)]) (fun i=>l.length-i.1) ⟨0,Nat.zero_le _,fun p hp=>by simp at hp⟩
  (fun K=>AH ⟨s_t,s_t,s_t,s_t,s_t,trivial⟩ trivial ⟨rfl,trivial⟩) ?_
 rintro⟨i,hi,hall⟩
 dsimp only at hi hall ⊢
 have hlt2:(l.take i).length<=i:=by rw[List.length_take];omega
 try refine A1 ?_
 refine A0 (A3 rfl rfl rfl (A4 rfl (kn rfl) (kn rfl) BU) .nil) ?_
 try refine A1 ?_
 refine AC rfl (fun h=>?_) (fun h=>?_)
 ·have hlt:=ltd h
  obtain⟨⟨k,c⟩,hp⟩:∃ p,l[i]?=some p:=⟨_,List.getElem?_eq_getElem hlt⟩
  have hln:=IQ hp
  have hrn:=J6 hp
  try refine A1 ?_
  refine AF ?_
  refine AK (AR rfl (kn rfl) (kn rfl) (by omega) hp BO sle_28 esz_28 rfl) ?_
  refine AK (B6 rfl (kn rfl) agg_45 sz_45) ?_
  refine CF 6 [.is (.int .i64 0),.is (.int .i64 0)] rfl rfl rfl rfl zr_45 (fun w D M V=>⟨rfl,fun j x v h1 h2=>CH _ h1 h2 rfl⟩) rfl rfl rfl rfl ?_
  refine BV rfl rfl rfl (kn rfl) rfl (kn rfl) rfl rfl sz_45 ?_
  refine AD ?_
  try refine A1 ?_
  refine AF ?_
  refine AM ?_
  refine AK (BI (ds:=[_,_]) 2 rfl (kn rfl) rfl rfl agg_45 sz_45 rfl) ?_
  refine AK (AQ (ds:=[_,_]) [(0,_)] rfl ⟨rfl,(kn rfl),trivial⟩ rfl sl_30 sz_39 zr_39 (fun w D=>.cons (.cell _) (.cons (.cell _) (.nil _ _))) rfl rfl rfl rfl rfl) ?_
  refine B4 rfl rfl rfl rfl (kn rfl) rfl (kn rfl) sl_30 ap_30 rfl rfl (by omega) (by omega) ?_
  refine CC hln hrn ?_
  refine B7 ?_
  refine AD ?_
  try refine A1 ?_
  refine A0 (A3 rfl rfl rfl (A8 rfl (kn rfl) off_45_1) (A3 rfl rfl rfl (A7 rfl (kn rfl) rfl rfl one_3) (A3 rfl rfl rfl (A4 rfl (kn rfl) (kn rfl) CE) .nil))) ?_
  try refine A1 ?_
  refine AC rfl (fun h1=>?_) (fun h1=>?_)
  ·exact absurd (hf (k,c) (List.mem_of_getElem? hp)) (by have:=of_decide_eq_true h1;simp only;omega)
  have h2:=zz h1
  try refine A1 ?_
  refine A0 (A3 rfl rfl rfl (A4 rfl (kn rfl) (kn rfl) (AE (by first | omega | (dsimp only;omega)))) (A5 rfl rfl rfl rfl rfl .nil)) ?_
  try refine A1 ?_
  refine AO ⟨i+1,by omega,fun p hp'=>by
   rw[List.take_add_one,hp]at hp'
   rcases List.mem_append.1 hp' with h | h
   ·exact hall p h
   ·rw[show p=(k,c) by simpa using h]
    exact h2⟩ (by dsimp only;omega) (fun K=>AH ⟨s_t,s_t,s_t,s_t,s_t,trivial⟩ trivial ⟨rfl,trivial⟩)
 rw[List.take_of_length_le (ltf h)]at hall ⊢
 try refine A1 ?_
 refine AJ 4 1000 rfl rfl rfl ?_
 refine A0 (A5 rfl rfl rfl rfl rfl (A5 rfl rfl rfl rfl rfl (A3 rfl rfl rfl (AN rfl (kn rfl) sle_28) (A3 rfl rfl rfl (A4 rfl (kn rfl) (kn rfl) F6) (A6 rfl rfl rfl rfl rfl (A6 rfl rfl rfl rfl rfl .nil)))))) ?_
 try refine A1 ?_
 exact AB rfl rfl (.tmp (kn rfl) (.tmp (kn rfl) (.nil))) (Imp.refl _) rfl
theorem O5(l:List Rn)(hl:l.length<=8796093022208)(hf:¬ MD l):EF Try.prog [] 15 [.one (BH l)] (.tup [.one L5,bP false]):=by
 refine AL 26 Try.func15 rfl rfl rfl fun w D=>?_
 try refine A1 ?_
 refine A0 (A6 rfl rfl rfl rfl rfl (A6 rfl rfl rfl rfl rfl .nil)) ?_
 try refine A1 ?_
 refine AF ?_
 refine D4 1000 rfl rfl rfl rfl sl_30 ap_30 rfl rfl ?_
 refine B7 ?_
 refine AD ?_
 try refine A1 ?_
 refine A0 (A5 rfl rfl rfl rfl rfl (A3 rfl rfl rfl (AN rfl (kn rfl) sle_28) (A5 rfl rfl rfl rfl rfl .nil))) ?_
 try refine A1 ?_
 refine BC (ι:={ i:Nat // i<=l.length /\ ∀ p∈l.take i,p.2<=200 })
  (fun i=>[(0,.part (.one (BH l))),(4,.own 1000),(8,.part (.one (BH l))),(9,zI (l.length:Int)),(10,zI (i.1:Int))])
  (fun _=>[]) (fun i=>[(1000,⟨39,2,(l.take i.1).length,(l.take i.1).flatMap rnD,false⟩)]) (fun i=>l.length-i.1) ⟨0,Nat.zero_le _,fun p hp=>by simp at hp⟩
  (fun K=>AH ⟨s_t,s_t,s_t,s_t,s_t,trivial⟩ trivial ⟨rfl,trivial⟩) ?_
 rintro⟨i,hi,hall⟩
 dsimp only at hi hall ⊢
 have hlt2:(l.take i).length<=i:=by rw[List.length_take];omega
 try refine A1 ?_
 refine A0 (A3 rfl rfl rfl (A4 rfl (kn rfl) (kn rfl) BU) .nil) ?_
 try refine A1 ?_
 refine AC rfl (fun h=>?_) (fun h=>?_)
 ·have hlt:=ltd h
  obtain⟨⟨k,c⟩,hp⟩:∃ p,l[i]?=some p:=⟨_,List.getElem?_eq_getElem hlt⟩
  have hln:=IQ hp
  have hrn:=J6 hp
  try refine A1 ?_
  refine AF ?_
  refine AK (AR rfl (kn rfl) (kn rfl) (by omega) hp BO sle_28 esz_28 rfl) ?_
  refine AK (B6 rfl (kn rfl) agg_45 sz_45) ?_
  refine CF 6 [.is (.int .i64 0),.is (.int .i64 0)] rfl rfl rfl rfl zr_45 (fun w D M V=>⟨rfl,fun j x v h1 h2=>CH _ h1 h2 rfl⟩) rfl rfl rfl rfl ?_
  refine BV rfl rfl rfl (kn rfl) rfl (kn rfl) rfl rfl sz_45 ?_
  refine AD ?_
  try refine A1 ?_
  refine AF ?_
  refine AM ?_
  refine AK (BI (ds:=[_,_]) 2 rfl (kn rfl) rfl rfl agg_45 sz_45 rfl) ?_
  refine AK (AQ (ds:=[_,_]) [(0,_)] rfl ⟨rfl,(kn rfl),trivial⟩ rfl sl_30 sz_39 zr_39 (fun w D=>.cons (.cell _) (.cons (.cell _) (.nil _ _))) rfl rfl rfl rfl rfl) ?_
  refine B4 rfl rfl rfl rfl (kn rfl) rfl (kn rfl) sl_30 ap_30 rfl rfl (by omega) (by omega) ?_
  refine CC hln hrn ?_
  refine B7 ?_
  refine AD ?_
  try refine A1 ?_
  refine A0 (A3 rfl rfl rfl (A8 rfl (kn rfl) off_45_1) (A3 rfl rfl rfl (A7 rfl (kn rfl) rfl rfl one_3) (A3 rfl rfl rfl (A4 rfl (kn rfl) (kn rfl) CE) .nil))) ?_
  try refine A1 ?_
  refine AC rfl (fun h1=>?_) (fun h1=>?_)
  ·try refine A1 ?_
   refine A0 (A6 rfl rfl rfl rfl rfl (A6 rfl rfl rfl rfl rfl .nil)) ?_
   try refine A1 ?_
   exact AB rfl rfl (.tmp (kn rfl) (.tmp (kn rfl) (.nil))) (Imp.refl _) rfl
  have h2:=zz h1
  try refine A1 ?_
  refine A0 (A3 rfl rfl rfl (A4 rfl (kn rfl) (kn rfl) (AE (by first | omega | (dsimp only;omega)))) (A5 rfl rfl rfl rfl rfl .nil)) ?_
  try refine A1 ?_
  refine AO ⟨i+1,by omega,fun p hp'=>by
   rw[List.take_add_one,hp]at hp'
   rcases List.mem_append.1 hp' with h | h
   ·exact hall p h
   ·rw[show p=(k,c) by simpa using h]
    exact h2⟩ (by dsimp only;omega) (fun K=>AH ⟨s_t,s_t,s_t,s_t,s_t,trivial⟩ trivial ⟨rfl,trivial⟩)
 rw[List.take_of_length_le (ltf h)]at hall ⊢
 exact absurd hall hf
theorem KO(b:List Int):edL [] b=b.length:=BW _
theorem IB(a:List Int):edL a []=a.length:=CD _
theorem L2:AW (GN [1,2,3] [1,3,4])=[(1,1),(2,1),(1,1),(3,1)]:=by
 have h1:edL [1,2,3] [1,3,4]=2:=by simp[H7,KO,IB]
 have h2:stL [1,2,3] [1,3,4]=[1,2,1,3]:=by simp[LB,H7,KO,IB,LV,OE]
 unfold GN
 rw[h1,if_neg (by decide),h2]
 rfl
theorem LU:IN [1] []=1:=by
 unfold IN
 rw[IB]
 rfl
theorem JU:EF Try.prog [] 7 [] (.part (bP true)):=by
 have h1:=K7 [1,2,3] [1,3,4] (by decide) (by decide)
 rw[L2]at h1
 have h2:=GL [(1,1),(2,1),(1,1),(3,1)] [(1,1),(2,1),(1,1),(3,1)] (by decide) (by decide)
 rw[decide_eq_true rfl]at h2
 have h3:=HN [1] [] (by decide) (by decide)
 rw[LU]at h3
 refine AL 17 Try.func7 rfl rfl rfl fun w D=>?_
 try refine A1 ?_
 refine A0 (A6 rfl rfl rfl rfl rfl .nil) ?_
 try refine A1 ?_
 refine A0 (A3 rfl rfl rfl (AQ (ds:=[_,_,_]) [(0,_),(1,_),(2,_)] rfl ⟨rfl,(kn rfl),⟨rfl,(kn rfl),⟨rfl,(kn rfl),trivial⟩⟩⟩ rfl sl_22 sz_3 zr_3 (fun w D=>.cons (.cell _) (.cons (.cell _) (.cons (.cell _) (.nil _ _)))) rfl rfl rfl rfl rfl) (A3 rfl rfl rfl (AQ (ds:=[_,_,_]) [(0,_),(1,_),(2,_)] rfl ⟨rfl,(kn rfl),⟨rfl,(kn rfl),⟨rfl,(kn rfl),trivial⟩⟩⟩ rfl sl_22 sz_3 zr_3 (fun w D=>.cons (.cell _) (.cons (.cell _) (.cons (.cell _) (.nil _ _)))) rfl rfl rfl rfl rfl) (A3 rfl rfl rfl (AU rfl (by kernel_rfl) (h1) ⟨(kn rfl),⟨(kn rfl),trivial⟩⟩) (A6 rfl rfl rfl rfl rfl .nil)))) ?_
 try refine A1 ?_
 refine A0 (A5 rfl rfl rfl rfl rfl (A3 rfl rfl rfl (CO (ds:=[_,_]) [(0,_),(1,_)] rfl ⟨rfl,(kn rfl),⟨rfl,(kn rfl),trivial⟩⟩ rfl pl_39 zr_39 (fun w D=>.cons (.cell _) (.cons (.cell _) (.nil _ _))) rfl) (A3 rfl rfl rfl (CO (ds:=[_,_]) [(0,_),(1,_)] rfl ⟨rfl,(kn rfl),⟨rfl,(kn rfl),trivial⟩⟩ rfl pl_39 zr_39 (fun w D=>.cons (.cell _) (.cons (.cell _) (.nil _ _))) rfl) (A3 rfl rfl rfl (CO (ds:=[_,_]) [(0,_),(1,_)] rfl ⟨rfl,(kn rfl),⟨rfl,(kn rfl),trivial⟩⟩ rfl pl_39 zr_39 (fun w D=>.cons (.cell _) (.cons (.cell _) (.nil _ _))) rfl) (A3 rfl rfl rfl (CO (ds:=[_,_]) [(0,_),(1,_)] rfl ⟨rfl,(kn rfl),⟨rfl,(kn rfl),trivial⟩⟩ rfl pl_39 zr_39 (fun w D=>.cons (.cell _) (.cons (.cell _) (.nil _ _))) rfl) (A3 rfl rfl rfl (AQ (ds:=[_,_,_,_,_,_,_,_]) [(0,_),(1,_),(2,_),(3,_)] rfl ⟨rfl,(kn rfl),⟨rfl,(kn rfl),⟨rfl,(kn rfl),⟨rfl,(kn rfl),trivial⟩⟩⟩⟩ rfl sl_30 sz_39 zr_39 (fun w D=>.cons (.cell _) (.cons (.cell _) (.cons (.cell _) (.cons (.cell _) (.cons (.cell _) (.cons (.cell _) (.cons (.cell _) (.cons (.cell _) (.nil _ _))))))))) rfl rfl rfl rfl rfl) (A3 rfl rfl rfl (AU rfl (by kernel_rfl) (h2) ⟨(kn rfl),⟨(kn rfl),trivial⟩⟩) (A5 rfl rfl rfl rfl rfl (Walk.gd _ rfl rfl rfl (fun h=>AQ (ds:=[_]) [(0,_)] rfl ⟨rfl,(kn rfl),trivial⟩ rfl sl_22 sz_3 zr_3 (fun w D=>.cons (.cell _) (.nil _ _)) rfl rfl rfl rfl rfl) (Walk.gd _ rfl rfl rfl (fun h=>AU rfl (by kernel_rfl) h3 ⟨A2 rfl h,GX (kn rfl) (Imp.nil 1),trivial⟩) (Walk.gd _ rfl rfl rfl (fun h=>A4 rfl (A2 rfl h) (kn rfl) B2) (A3 rfl rfl rfl (BB rfl (kn rfl) (fun hb=>A2 rfl hb)) (A6 rfl rfl rfl rfl rfl .nil))))))))))))) ?_
 try refine A1 ?_
 exact AB rfl rfl (.tmp (kn rfl) (.nil)) (CM rfl) rfl
theorem gt_60{n:Nat}(h:decide ((60:Int)<(n:Int))=false):n<=60:=by have:=of_decide_eq_false h;omega
end Go.Proofs.Ytjpghcmlglhmbaa
