/- Part 14. Conditions: as each theorem says. -/
import Derived.Test.YtjpghcmlglhmbaaMW13
import Derived.Test.YtjpghcmlglhmbaaProg
set_option maxRecDepth 100000
namespace Go.Proofs.Ytjpghcmlglhmbaa
open Go.RowKit
theorem MT{k:Int}{x n y m:Nat}(h:(!((!decide (k=3)&&decide ((n:Int)<=(x:Int)))||(!decide (k=2)&&decide ((m:Int)<=(y:Int))))&&decide (k=1))=true):k=1/\x<n/\y<m:=by
 rw[JF,JF]at h
 simp only[Bool.and_eq_true,Bool.not_eq_true',Bool.or_eq_false_iff,decide_eq_true_eq,Bool.and_eq_false_iff,Bool.not_eq_false',decide_eq_false_iff_not]at h
 omega
theorem CK{l:List Int}{x:Nat}{p:Int}(h:l[x]?=some p):l.drop x=p::l.drop (x+1):=by
 have hx:x<l.length:=(List.getElem?_eq_some_iff.1 h).1
 rw[List.drop_eq_getElem_cons hx,(List.getElem?_eq_some_iff.1 h).2]
theorem JY{k:Int}{j:Nat}{t u v:LL}(h1:mvs (List.replicate j k) t=some u)(h2:mv k u=some v):mvs (List.replicate (j+1) k) t=some v:=by
 rw[List.replicate_succ',BR,h1]
 show(mv k u).bind (mvs [])=_
 rw[h2]
 rfl
theorem KS{k:Int}{j n:Nat}{t u:LL}(h1:mvs (List.replicate j k) t=some u)(h2:mv k u=none)(hj:j<n):mvs (List.replicate n k) t=none:=by
 obtain⟨d,rfl⟩:∃ d,n=j+(1+d):=⟨n-j-1,by omega⟩
 rw[<- List.replicate_append_replicate,BR,h1,show 1+d=d+1 by omega,List.replicate_succ]
 show(mv k u).bind _=none
 rw[h2]
 rfl
theorem mv_1{p q:Int}{a b:List Int}:mv 1 (p::a,q::b)=if p=q then some (a,b)else none:=rfl
theorem O8{a b:List Int}{k:Int}{x y:Nat}(hk:1<=k/\k<=3)(h:(k≠3/\a.length<=x)\/(k≠2/\b.length<=y)):mv k (a.drop x,b.drop y)=none:=by
 unfold mv
 by_cases k1:k=1
 ·rw[if_pos k1]
  rcases h with h | h
  ·rw[List.drop_eq_nil_of_le h.2]
  ·rw[List.drop_eq_nil_of_le h.2]
   cases a.drop x<;>rfl
 ·rw[if_neg k1]
  by_cases k2:k=2
  ·rw[if_pos k2]
   rcases h with h | h
   ·rw[List.drop_eq_nil_of_le h.2]
   ·exact absurd k2 h.1
  ·have k3:k=3:=by omega
   rw[if_neg k2,if_pos k3]
   rcases h with h | h
   ·exact absurd k3 h.1
   ·rw[List.drop_eq_nil_of_le h.2]
theorem NL{a b:List Int}{k:Int}{x y:Nat}(hk:1<=k/\k<=3)(h1:k≠3->x<a.length)(h2:k≠2->y<b.length)(h3:k=1 -> ∃ p,a[x]?=some p/\b[y]?=some p):mv k (a.drop x,b.drop y)=some (a.drop (if k=3 then x else x+1),b.drop (if k=2 then y else y+1)):=by
 unfold mv
 by_cases k1:k=1
 ·obtain⟨p,hp,hq⟩:=h3 k1
  rw[if_pos k1,CK hp,CK hq,if_neg (by omega),if_neg (by omega)]
  simp
 ·rw[if_neg k1]
  by_cases k2:k=2
  ·obtain⟨p,hp⟩:∃ p,a[x]?=some p:=⟨_,List.getElem?_eq_getElem (h1 (by omega))⟩
   rw[if_pos k2,CK hp,if_neg (by omega),if_pos k2]
  ·obtain⟨p,hp⟩:∃ p,b[y]?=some p:=⟨_,List.getElem?_eq_getElem (h2 k2)⟩
   have k3:k=3:=by omega
   rw[if_neg k2,if_pos k3,CK hp,if_pos k3,if_neg k2]
theorem NC{k:Int}{x n y m:Nat}{t:Bool}(h:((!decide (k=3)&&decide ((n:Int)<=(x:Int)))||(!decide (k=2)&&decide ((m:Int)<=(y:Int)))||(decide (k=1)&&t))=false):(k≠3->x<n)/\(k≠2->y<m)/\(k=1->t=false):=by
 rw[JF,JF]at h
 simp only[Bool.or_eq_false_iff,Bool.and_eq_false_iff,Bool.not_eq_false',decide_eq_true_eq,decide_eq_false_iff_not]at h
 refine⟨by omega,by omega,fun hk=>?_⟩
 rcases h.2 with h | h
 ·exact absurd hk h
 ·exact h
theorem LH{k:Int}{x n y m:Nat}{t:Bool}(h:((!decide (k=3)&&decide ((n:Int)<=(x:Int)))||(!decide (k=2)&&decide ((m:Int)<=(y:Int)))||(decide (k=1)&&t))=true):((k≠3/\n<=x)\/(k≠2/\m<=y))\/(k=1/\x<n/\y<m/\t=true):=by
 rw[JF,JF]at h
 simp only[Bool.or_eq_true,Bool.and_eq_true,Bool.not_eq_true',decide_eq_true_eq,decide_eq_false_iff_not]at h
 rcases h with h | ⟨h1,h2⟩
 ·exact .inl h
 ·by_cases ha:n<=x
  ·exact .inl (.inl ⟨by omega,ha⟩)
  ·by_cases hb:m<=y
   ·exact .inl (.inr ⟨by omega,hb⟩)
   ·exact .inr ⟨h1,by omega,by omega,h2⟩
theorem KX{k c:Int}(h:((decide (k<1)||decide (3<k))||decide (c<1))=false):B9 (k,c)=true:=by
 simp only[Bool.or_eq_false_iff,decide_eq_false_iff_not]at h
 exact B3.2 ⟨by dsimp only;omega,by dsimp only;omega⟩
theorem JZ{k c:Int}(h:((decide (k<1)||decide (3<k))||decide (c<1))=true):B9 (k,c)=false:=by
 cases hr:B9 (k,c)with
 | false=>rfl
 | true=>
  have:=B3.1 hr
  simp only[Bool.or_eq_true,decide_eq_true_eq]at h this
  omega
theorem II{r:List Rn}{i:Nat}{p:Rn}(h:r[i]?=some p):r.drop i=p::r.drop (i+1):=by
 have hx:i<r.length:=(List.getElem?_eq_some_iff.1 h).1
 rw[List.drop_eq_getElem_cons hx,(List.getElem?_eq_some_iff.1 h).2]
set_option maxHeartbeats 4000000 in
theorem G4(rs:List Rn)(a b:List Int)(hrs:rs.length<=1000000)(ha:a.length<=1000000)(hb:b.length<=1000000)(hci:∀ p∈rs,p.2<=1000000000):EF Try.prog [] 19 [.one (BH rs),.one (zsD a),.one (zsD b)] (.part (bP (C8 rs a b))):=by
 refine AL 94 Try.func19 rfl rfl rfl fun w D=>?_
 try refine A1 ?_
 refine A0 (A6 rfl rfl rfl rfl rfl .nil) ?_
 try refine A1 ?_
 refine A0 (A6 rfl rfl rfl rfl rfl (A6 rfl rfl rfl rfl rfl .nil)) ?_
 try refine A1 ?_
 refine A0 (A5 rfl rfl rfl rfl rfl (A3 rfl rfl rfl (AN rfl (kn rfl) sle_30) (A5 rfl rfl rfl rfl rfl .nil))) ?_
 try refine A1 ?_
 refine BC (ι:={ t:Nat×Nat×Nat // t.1<=rs.length/\t.2.1<=a.length/\t.2.2<=b.length/\C8 rs a b=C8 (rs.drop t.1) (a.drop t.2.1) (b.drop t.2.2) })
  (fun t=>[(1,.part (.one (zsD a))),(2,.part (.one (zsD b))),(7,zI (t.1.2.1:Int)),(8,zI (t.1.2.2:Int)),(12,.part (.one (BH rs))),(13,zI (rs.length:Int)),(14,zI (t.1.1:Int))])
  (fun _=>[]) (fun _=>[]) (fun t=>rs.length-t.1.1) ⟨(0,0,0),by dsimp only;omega,by dsimp only;omega,by dsimp only;omega,rfl⟩
  (fun K=>AH ⟨s_t,s_t,s_t,s_t,s_t,s_t,s_t,trivial⟩ trivial trivial) ?_
 rintro⟨⟨i,x0,y0⟩,hi,hx0,hy0,hw⟩
 dsimp only at hi hx0 hy0 hw ⊢
 try refine A1 ?_
 refine A0 (A3 rfl rfl rfl (A4 rfl (kn rfl) (kn rfl) BU) .nil) ?_
 try refine A1 ?_
 refine AC rfl (fun h=>?_) (fun h=>?_)
 ·have hlt:=ltd h
  obtain⟨⟨k,c⟩,hp⟩:∃ p,rs[i]?=some p:=⟨_,List.getElem?_eq_getElem hlt⟩
  have hcc:c<=1000000000:=hci _ (List.mem_of_getElem? hp)
  rw[II hp]at hw
  try refine A1 ?_
  refine AF ?_
  refine AK (AR rfl (kn rfl) (kn rfl) (by omega) hp BO sle_30 esz_30 rfl) ?_
  refine AK (B6 rfl (kn rfl) agg_39 sz_39) ?_
  refine CF 10 [.is (.int .i64 0),.is (.int .i64 0)] rfl rfl rfl rfl zr_39 (fun w D M V=>⟨rfl,fun j x v h1 h2=>CH _ h1 h2 rfl⟩) rfl rfl rfl rfl ?_
  refine BV rfl rfl rfl (kn rfl) rfl (kn rfl) rfl rfl sz_39 ?_
  refine AD ?_
  try refine A1 ?_
  refine A0 (A3 rfl rfl rfl (A8 rfl (kn rfl) off_39_0) (A3 rfl rfl rfl (A7 rfl (kn rfl) rfl rfl one_3) (A3 rfl rfl rfl (A4 rfl (kn rfl) (kn rfl) BU) (A5 rfl rfl rfl rfl rfl (Walk.gd _ rfl rfl rfl (fun h=>A8 rfl (kn rfl) off_39_0) (Walk.gd _ rfl rfl rfl (fun h=>A7 rfl (A2 rfl h) rfl rfl one_3) (Walk.gd _ rfl rfl rfl (fun h=>A4 rfl (A2 rfl h) (kn rfl) CE) (A3 rfl rfl rfl (DU rfl (kn rfl) (fun hb=>A2 rfl hb)) (A5 rfl rfl rfl rfl rfl (Walk.gd _ rfl rfl rfl (fun h=>A8 rfl (kn rfl) off_39_1) (Walk.gd _ rfl rfl rfl (fun h=>A7 rfl (A2 rfl h) rfl rfl one_3) (Walk.gd _ rfl rfl rfl (fun h=>A4 rfl (A2 rfl h) (kn rfl) BU) (A3 rfl rfl rfl (DU rfl (kn rfl) (fun hb=>A2 rfl hb)) .nil))))))))))))) ?_
  try refine A1 ?_
  refine AC rfl (fun h1=>?_) (fun h1=>?_)
  ·try refine A1 ?_
   refine A0 (A6 rfl rfl rfl rfl rfl .nil) ?_
   try refine A1 ?_
   exact AB rfl rfl (.tmp (kn rfl) (.nil)) (CM (by rw[hw,ID (JZ h1)])) rfl
  have hr:=KX h1
  have hk:(1<=k/\k<=3)/\1<=c:=B3.1 hr
  try refine A1 ?_
  refine A0 (A6 rfl rfl rfl rfl rfl .nil) ?_
  try refine A1 ?_
  refine BC (ι:={ t:Nat×Nat×Nat // t.1<=c.toNat/\t.2.1<=a.length/\t.2.2<=b.length/\mvs (List.replicate t.1 k) (a.drop x0,b.drop y0)=some (a.drop t.2.1,b.drop t.2.2) })
   (fun t=>[(1,.part (.one (zsD a))),(2,.part (.one (zsD b))),(7,zI (t.1.2.1:Int)),(8,zI (t.1.2.2:Int)),(10,.box 10 0),(11,zI (t.1.1:Int)),(12,.part (.one (BH rs))),(13,zI (rs.length:Int)),(14,zI (i:Int))])
   (fun _=>[(10,⟨39,[zI k,zI c]⟩)]) (fun _=>[]) (fun t=>c.toNat-t.1.1) ⟨(0,x0,y0),by dsimp only;omega,hx0,hy0,rfl⟩
   (fun K=>AH ⟨s_t,s_t,s_t,s_t,s_t,s_t,s_t,s_t,s_t,trivial⟩ ⟨s_b,trivial⟩ trivial) ?_
  rintro⟨⟨j,x,y⟩,hj,hx,hy,hm⟩
  dsimp only at hj hx hy hm ⊢
  obtain⟨p,hpa⟩:=GA a x
  obtain⟨q,hqb⟩:=GA b y
  try refine A1 ?_
  refine A0 (A5 rfl rfl rfl rfl rfl (A3 rfl rfl rfl (A8 rfl (kn rfl) off_39_1) (A3 rfl rfl rfl (A7 rfl (kn rfl) rfl rfl one_3) (A3 rfl rfl rfl (A4 rfl (kn rfl) (kn rfl) BU) .nil)))) ?_
  try refine A1 ?_
  refine AC rfl (fun h=>?_) (fun h=>?_)
  ·have hjl:j<c.toNat:=by have:=of_decide_eq_true h;omega
   try refine A1 ?_
   refine CA CB (by kernel_rfl) (A3 rfl rfl rfl (A8 rfl (kn rfl) off_39_0) (A3 rfl rfl rfl (A7 rfl (kn rfl) rfl rfl one_3) (A3 rfl rfl rfl (A4 rfl (kn rfl) (kn rfl) DG) (A5 rfl rfl rfl rfl rfl (Walk.gd _ rfl rfl rfl (fun h=>AA rfl (kn rfl)) (Walk.gd _ rfl rfl rfl (fun h=>AA rfl (kn rfl)) (Walk.gd _ rfl rfl rfl (fun h=>AN rfl (A2 rfl h) sle_22) (Walk.gd _ rfl rfl rfl (fun h=>A4 rfl (A2 rfl h) (A2 rfl h) ET) (A3 rfl rfl rfl (BB rfl (kn rfl) (fun hb=>A2 rfl hb)) (A5 rfl rfl rfl rfl rfl (Walk.gd _ rfl rfl rfl (fun h=>A8 rfl (kn rfl) off_39_0) (Walk.gd _ rfl rfl rfl (fun h=>A7 rfl (A2 rfl h) rfl rfl one_3) (Walk.gd _ rfl rfl rfl (fun h=>A4 rfl (A2 rfl h) (kn rfl) DG) (Walk.gd _ rfl rfl rfl (fun h=>AA rfl (A2 rfl h)) (Walk.gd _ rfl rfl rfl (fun h=>AA rfl (kn rfl)) (Walk.gd _ rfl rfl rfl (fun h=>AA rfl (kn rfl)) (Walk.gd _ rfl rfl rfl (fun h=>AN rfl (A2 rfl h) sle_22) (Walk.gd _ rfl rfl rfl (fun h=>A4 rfl (A2 rfl h) (A2 rfl h) ET) (Walk.gd _ rfl rfl rfl (fun h=>BB rfl (A2 rfl h) (fun hb=>A2 rfl (gb h hb))) (A3 rfl rfl rfl (DU rfl (kn rfl) (fun hb=>A2 rfl hb)) (A5 rfl rfl rfl rfl rfl (Walk.gd _ rfl rfl rfl (fun h=>A8 rfl (kn rfl) off_39_0) (Walk.gd _ rfl rfl rfl (fun h=>A7 rfl (A2 rfl h) rfl rfl one_3) (Walk.gd _ rfl rfl rfl (fun h=>A4 rfl (A2 rfl h) (kn rfl) B2) (Walk.gd _ rfl rfl rfl (fun h=>AA rfl (A2 rfl h)) (Walk.gd _ rfl rfl rfl (fun h=>AA rfl (kn rfl)) (Walk.gd _ rfl rfl rfl (fun h=>AA rfl (kn rfl)) (Walk.gd _ rfl rfl rfl (fun h=>AR rfl (A2 rfl h) (A2 rfl h) (by omega) (hpa (MT h).2.1) AT sle_22 esz_22 rfl) (Walk.gd _ rfl rfl rfl (fun h=>AG rfl (A2 rfl h) one_3) (Walk.gd _ rfl rfl rfl (fun h=>AA rfl (kn rfl)) (Walk.gd _ rfl rfl rfl (fun h=>AA rfl (kn rfl)) (Walk.gd _ rfl rfl rfl (fun h=>AR rfl (A2 rfl h) (A2 rfl h) (by omega) (hqb (MT h).2.2) AT sle_22 esz_22 rfl) (Walk.gd _ rfl rfl rfl (fun h=>AG rfl (A2 rfl h) one_3) (Walk.gd _ rfl rfl rfl (fun h=>A4 rfl (A2 rfl h) (A2 rfl h) DG) (Walk.gd _ rfl rfl rfl (fun h=>BB rfl (A2 rfl h) (fun hb=>A2 rfl (gb h hb))) (A3 rfl rfl rfl (DU rfl (kn rfl) (fun hb=>A2 rfl hb)) .nil)))))))))))))))))))))))))))))))))))) ?_
   try refine A1 ?_
   refine AC rfl (fun h2=>?_) (fun h2=>?_)
   ·have hno:mv k (a.drop x,b.drop y)=none:=by
     rcases LH h2 with h3 | ⟨e,hxa,hyb,ht⟩
     ·exact O8 hk.1 h3
     ·subst e
      rw[CK (hpa hxa),CK (hqb hyb),mv_1,if_neg (by simpa using ht)]
    try refine A1 ?_
    refine A0 (A6 rfl rfl rfl rfl rfl .nil) ?_
    try refine A1 ?_
    exact AB rfl rfl (.tmp (kn rfl) (.nil)) (CM (by rw[hw,FH (KS hm hno hjl)])) rfl
   obtain⟨h3,h4,h5⟩:=NC h2
   have hyes:=NL hk.1 h3 h4 fun e=>⟨p,hpa (h3 (by omega)),by
    have:=h5 e
    simp only[Bool.not_eq_false',decide_eq_true_eq]at this
    rw[this]
    exact hqb (h4 (by omega))⟩
   have hmo:=JY hm hyes
   try refine A1 ?_
   refine A0 (A3 rfl rfl rfl (A8 rfl (kn rfl) off_39_0) (A3 rfl rfl rfl (A7 rfl (kn rfl) rfl rfl one_3) (A3 rfl rfl rfl (A4 rfl (kn rfl) (kn rfl) DG) .nil))) ?_
   try refine A1 ?_
   refine AC rfl (fun h6=>?_) (fun h6=>?_)
   ·have e6:k≠3:=by simpa using h6
    rw[if_neg e6]at hmo
    have hxa:=h3 e6
    try refine A1 ?_
    refine A0 (A5 rfl rfl rfl rfl rfl (A3 rfl rfl rfl (A4 rfl (kn rfl) (kn rfl) (AE (by first | omega | (dsimp only;omega)))) (A6 rfl rfl rfl rfl rfl .nil))) ?_
    try refine A1 ?_
    refine A0 (A3 rfl rfl rfl (A8 rfl (kn rfl) off_39_0) (A3 rfl rfl rfl (A7 rfl (kn rfl) rfl rfl one_3) (A3 rfl rfl rfl (A4 rfl (kn rfl) (kn rfl) DG) .nil))) ?_
    try refine A1 ?_
    refine AC rfl (fun h7=>?_) (fun h7=>?_)
    ·have e7:k≠2:=by simpa using h7
     rw[if_neg e7]at hmo
     have hyb:=h4 e7
     try refine A1 ?_
     refine A0 (A5 rfl rfl rfl rfl rfl (A3 rfl rfl rfl (A4 rfl (kn rfl) (kn rfl) (AE (by first | omega | (dsimp only;omega)))) (A6 rfl rfl rfl rfl rfl .nil))) ?_
     try refine A1 ?_
     refine A0 (A5 rfl rfl rfl rfl rfl (A3 rfl rfl rfl (A4 rfl (kn rfl) (kn rfl) (AE (by first | omega | (dsimp only;omega)))) (A6 rfl rfl rfl rfl rfl .nil))) ?_
     try refine A1 ?_
     refine AO ⟨(j+1,x+1,y+1),by dsimp only;omega,by dsimp only;omega,by dsimp only;omega,hmo⟩ (by dsimp only;omega) (fun K=>AH ⟨s_t,s_t,s_t,s_t,s_t,s_t,s_t,s_t,s_t,trivial⟩ ⟨s_b,trivial⟩ trivial)
    ·have e7:k=2:=by simpa using h7
     rw[if_pos e7]at hmo
     try refine A1 ?_
     refine A0 (A5 rfl rfl rfl rfl rfl (A3 rfl rfl rfl (A4 rfl (kn rfl) (kn rfl) (AE (by first | omega | (dsimp only;omega)))) (A6 rfl rfl rfl rfl rfl .nil))) ?_
     try refine A1 ?_
     refine AO ⟨(j+1,x+1,y),by dsimp only;omega,by dsimp only;omega,by dsimp only;omega,hmo⟩ (by dsimp only;omega) (fun K=>AH ⟨s_t,s_t,s_t,s_t,s_t,s_t,s_t,s_t,s_t,trivial⟩ ⟨s_b,trivial⟩ trivial)
   ·have e6:k=3:=by simpa using h6
    have e7:k≠2:=by omega
    rw[if_pos e6,if_neg e7]at hmo
    have hyb:=h4 e7
    try refine A1 ?_
    refine A0 (A3 rfl rfl rfl (A8 rfl (kn rfl) off_39_0) (A3 rfl rfl rfl (A7 rfl (kn rfl) rfl rfl one_3) (A3 rfl rfl rfl (A4 rfl (kn rfl) (kn rfl) DG) .nil))) ?_
    try refine A1 ?_
    refine AC rfl (fun h7=>?_) (fun h7=>absurd (show k=2 by simpa using h7) e7)
    try refine A1 ?_
    refine A0 (A5 rfl rfl rfl rfl rfl (A3 rfl rfl rfl (A4 rfl (kn rfl) (kn rfl) (AE (by first | omega | (dsimp only;omega)))) (A6 rfl rfl rfl rfl rfl .nil))) ?_
    try refine A1 ?_
    refine A0 (A5 rfl rfl rfl rfl rfl (A3 rfl rfl rfl (A4 rfl (kn rfl) (kn rfl) (AE (by first | omega | (dsimp only;omega)))) (A6 rfl rfl rfl rfl rfl .nil))) ?_
    try refine A1 ?_
    refine AO ⟨(j+1,x,y+1),by dsimp only;omega,by dsimp only;omega,by dsimp only;omega,hmo⟩ (by dsimp only;omega) (fun K=>AH ⟨s_t,s_t,s_t,s_t,s_t,s_t,s_t,s_t,s_t,trivial⟩ ⟨s_b,trivial⟩ trivial)
  obtain rfl:j=c.toNat:=by have:=of_decide_eq_false h;omega
  have hgo:=K8 (p:=(k,c)) (r:=rs.drop (i+1)) hr hm
  try refine A1 ?_
  refine A0 (A3 rfl rfl rfl (A4 rfl (kn rfl) (kn rfl) (AE (by first | omega | (dsimp only;omega)))) (A5 rfl rfl rfl rfl rfl .nil)) ?_
  try refine A1 ?_
  refine AO ⟨(i+1,x,y),by dsimp only;omega,hx,hy,by rw[hw,hgo]⟩ (by dsimp only;omega) (fun K=>AH ⟨s_t,s_t,s_t,s_t,s_t,s_t,s_t,trivial⟩ trivial trivial)
 rw[List.drop_eq_nil_of_le (ltf h),IZ]at hw
 try refine A1 ?_
 refine A0 (A5 rfl rfl rfl rfl rfl (A5 rfl rfl rfl rfl rfl (A3 rfl rfl rfl (AN rfl (kn rfl) sle_22) (A3 rfl rfl rfl (A4 rfl (kn rfl) (kn rfl) B2) (A5 rfl rfl rfl rfl rfl (Walk.gd _ rfl rfl rfl (fun h=>AA rfl (kn rfl)) (Walk.gd _ rfl rfl rfl (fun h=>AA rfl (kn rfl)) (Walk.gd _ rfl rfl rfl (fun h=>AN rfl (A2 rfl h) sle_22) (Walk.gd _ rfl rfl rfl (fun h=>A4 rfl (A2 rfl h) (A2 rfl h) B2) (A3 rfl rfl rfl (BB rfl (kn rfl) (fun hb=>A2 rfl hb)) (A6 rfl rfl rfl rfl rfl .nil))))))))))) ?_
 try refine A1 ?_
 exact AB rfl rfl (.tmp (kn rfl) (.nil)) (CM (by rw[hw,NV,NV,List.length_drop,List.length_drop];congr 1<;>exact decide_eq_decide.2 (by omega))) rfl
abbrev rnP(p:Rn):Part:=.many (rnD p)
theorem FE(p:Rn):EF Try.prog [] 26 [rnP p] (.part (bP (B9 p))):=by
 obtain⟨k,c⟩:=p
 refine AL 16 Try.func26 rfl rfl rfl fun w D=>?_
 try refine A1 ?_
 refine AF ?_
 refine MS 1 rfl rfl rfl rfl (kn rfl) rfl rfl rfl rfl ?_
 refine B7 ?_
 refine AD ?_
 try refine A1 ?_
 refine A0 (A3 rfl rfl rfl (A8 rfl (kn rfl) off_45_0) (A3 rfl rfl rfl (A7 rfl (kn rfl) rfl rfl one_3) (A3 rfl rfl rfl (A4 rfl (kn rfl) (kn rfl) ET) (A5 rfl rfl rfl rfl rfl (Walk.gd _ rfl rfl rfl (fun h=>A8 rfl (kn rfl) off_45_0) (Walk.gd _ rfl rfl rfl (fun h=>A7 rfl (A2 rfl h) rfl rfl one_3) (Walk.gd _ rfl rfl rfl (fun h=>A4 rfl (A2 rfl h) (kn rfl) F6) (A3 rfl rfl rfl (BB rfl (kn rfl) (fun hb=>A2 rfl hb)) (A5 rfl rfl rfl rfl rfl (Walk.gd _ rfl rfl rfl (fun h=>A8 rfl (kn rfl) off_45_1) (Walk.gd _ rfl rfl rfl (fun h=>A7 rfl (A2 rfl h) rfl rfl one_3) (Walk.gd _ rfl rfl rfl (fun h=>A4 rfl (A2 rfl h) (kn rfl) ET) (A3 rfl rfl rfl (BB rfl (kn rfl) (fun hb=>A2 rfl hb)) (A6 rfl rfl rfl rfl rfl .nil)))))))))))))) ?_
 try refine A1 ?_
 exact AB rfl rfl (.tmp (kn rfl) (.nil)) (Imp.refl _) rfl
def tkA(k c:Int):Int:=if k=1\/k=2 then c else 0
def tkB(k c:Int):Int:=if k=1\/k=3 then c else 0
theorem L6(k c:Int):EF Try.prog [] 28 [rnP (k,c)] (.tup [zP (tkA k c),zP (tkB k c)]):=by
 refine AL 20 Try.func28 rfl rfl rfl fun w D=>?_
 try refine A1 ?_
 refine AF ?_
 refine MS 1 rfl rfl rfl rfl (kn rfl) rfl rfl rfl rfl ?_
 refine B7 ?_
 refine B7 ?_
 refine AD ?_
 try refine A1 ?_
 refine A0 (A3 rfl rfl rfl (A8 rfl (kn rfl) off_45_0) (A3 rfl rfl rfl (A7 rfl (kn rfl) rfl rfl one_3) .nil)) ?_
 try refine A1 ?_
 refine A0 (A3 rfl rfl rfl (A4 rfl (kn rfl) (kn rfl) B2) (A6 rfl rfl rfl rfl rfl .nil)) ?_
 try refine A1 ?_
 refine AC rfl (fun h1=>?_) (fun h1=>?_)
 ·have e:=of_decide_eq_true h1
  have ea:tkA k c=c:=if_pos (.inl e)
  have eb:tkB k c=c:=if_pos (.inl e)
  rw[ea,eb]
  try refine A1 ?_
  refine CA CB (by kernel_rfl) (A3 rfl rfl rfl (A8 rfl (kn rfl) off_45_1) (A3 rfl rfl rfl (A7 rfl (kn rfl) rfl rfl one_3) (A3 rfl rfl rfl (A8 rfl (kn rfl) off_45_1) (A3 rfl rfl rfl (A7 rfl (kn rfl) rfl rfl one_3) (A6 rfl rfl rfl rfl rfl (A6 rfl rfl rfl rfl rfl .nil)))))) ?_
  try refine A1 ?_
  exact AB rfl rfl (.tmp (kn rfl) (.tmp (kn rfl) (.nil))) (Imp.refl _) rfl
 try refine A1 ?_
 refine A0 (A3 rfl rfl rfl (A4 rfl (kn rfl) (kn rfl) B2) (A6 rfl rfl rfl rfl rfl .nil)) ?_
 try refine A1 ?_
 refine AC rfl (fun h2=>?_) (fun h2=>?_)
 ·have e:=of_decide_eq_true h2
  have ea:tkA k c=c:=if_pos (.inr e)
  have eb:tkB k c=0:=if_neg (by omega)
  rw[ea,eb]
  try refine A1 ?_
  refine A0 (A3 rfl rfl rfl (A8 rfl (kn rfl) off_45_1) (A3 rfl rfl rfl (A7 rfl (kn rfl) rfl rfl one_3) (A6 rfl rfl rfl rfl rfl (A6 rfl rfl rfl rfl rfl .nil)))) ?_
  try refine A1 ?_
  exact AB rfl rfl (.tmp (kn rfl) (.tmp (kn rfl) (.nil))) (Imp.refl _) rfl
 try refine A1 ?_
 refine A0 (A3 rfl rfl rfl (A4 rfl (kn rfl) (kn rfl) B2) (A6 rfl rfl rfl rfl rfl .nil)) ?_
 try refine A1 ?_
 have e1:=of_decide_eq_false h1
 have e2:=of_decide_eq_false h2
 refine AC rfl (fun h3=>?_) (fun h3=>?_)
 ·have e:=of_decide_eq_true h3
  have ea:tkA k c=0:=if_neg (by omega)
  have eb:tkB k c=c:=if_pos (.inr e)
  rw[ea,eb]
  try refine A1 ?_
  refine CA CB (by kernel_rfl) (A3 rfl rfl rfl (A8 rfl (kn rfl) off_45_1) (A3 rfl rfl rfl (A7 rfl (kn rfl) rfl rfl one_3) (A6 rfl rfl rfl rfl rfl (A6 rfl rfl rfl rfl rfl .nil)))) ?_
  try refine A1 ?_
  exact AB rfl rfl (.tmp (kn rfl) (.tmp (kn rfl) (.nil))) (Imp.refl _) rfl
 have e3:=of_decide_eq_false h3
 have ea:tkA k c=0:=if_neg (by omega)
 have eb:tkB k c=0:=if_neg (by omega)
 rw[ea,eb]
 try refine A1 ?_
 refine A0 (A6 rfl rfl rfl rfl rfl (A6 rfl rfl rfl rfl rfl .nil)) ?_
 try refine A1 ?_
 exact AB rfl rfl (.tmp (kn rfl) (.tmp (kn rfl) (.nil))) (Imp.refl _) rfl
theorem M6{a b:List Int}{k:Nat}{p q:Int}(h:a.take k=b.take k)(hp:a[k]?=some p)(hq:b[k]?=some q):a.take (k+1)=b.take (k+1)↔p=q:=by
 rw[List.take_add_one,List.take_add_one,h,hp,hq]
 simp
theorem KA(a b:List Int)(ha:a.length<=1000000)(hb:b.length<=1000000):EF Try.prog [] 29 [.one (zsD a),.one (zsD b)] (.part (bP (decide (a=b)))):=by
 refine AL 26 Try.func29 rfl rfl rfl fun w D=>?_
 try refine A1 ?_
 refine A0 (A6 rfl rfl rfl rfl rfl .nil) ?_
 try refine A1 ?_
 refine A0 (A5 rfl rfl rfl rfl rfl (A3 rfl rfl rfl (AN rfl (kn rfl) sle_22) (A5 rfl rfl rfl rfl rfl (A3 rfl rfl rfl (AN rfl (kn rfl) sle_22) (A3 rfl rfl rfl (A4 rfl (kn rfl) (kn rfl) DG) .nil))))) ?_
 try refine A1 ?_
 refine AC rfl (fun h=>?_) (fun h=>?_)
 ·try refine A1 ?_
  refine A0 (A6 rfl rfl rfl rfl rfl .nil) ?_
  try refine A1 ?_
  exact AB rfl rfl (.tmp (kn rfl) (.nil)) (CM (decide_eq_false fun e=>by subst e;simp at h).symm) rfl
 have hl:a.length=b.length:=by
  simp only[Bool.not_eq_false',decide_eq_true_eq]at h
  omega
 try refine A1 ?_
 refine A0 (A5 rfl rfl rfl rfl rfl (A3 rfl rfl rfl (AN rfl (kn rfl) sle_22) (A5 rfl rfl rfl rfl rfl .nil))) ?_
 try refine A1 ?_
 refine BC (ι:={ i:Nat // i<=a.length/\a.take i=b.take i })
  (fun i=>[(0,.part (.one (zsD a))),(1,.part (.one (zsD b))),(12,zI (a.length:Int)),(13,zI (i.1:Int))])
  (fun _=>[]) (fun _=>[]) (fun i=>a.length-i.1) ⟨0,Nat.zero_le _,rfl⟩
  (fun K=>AH ⟨s_t,s_t,s_t,s_t,trivial⟩ trivial trivial) ?_
 rintro⟨i,hi,ht⟩
 dsimp only at hi ht ⊢
 try refine A1 ?_
 refine A0 (A3 rfl rfl rfl (A4 rfl (kn rfl) (kn rfl) BU) .nil) ?_
 try refine A1 ?_
 refine AC rfl (fun h=>?_) (fun h=>?_)
 ·have hlt:=ltd h
  obtain⟨p,hp⟩:∃ p,a[i]?=some p:=⟨_,List.getElem?_eq_getElem hlt⟩
  obtain⟨q,hq⟩:∃ q,b[i]?=some q:=⟨_,List.getElem?_eq_getElem (by omega)⟩
  have he:=M6 ht hp hq
  try refine A1 ?_
  refine A0 (A5 rfl rfl rfl rfl rfl (A6 rfl rfl rfl rfl rfl .nil)) ?_
  try refine A1 ?_
  refine CA CB (by kernel_rfl) (A5 rfl rfl rfl rfl rfl (A5 rfl rfl rfl rfl rfl (A3 rfl rfl rfl (AR rfl (kn rfl) (kn rfl) (by omega) hp AT sle_22 esz_22 rfl) (A3 rfl rfl rfl (AG rfl (kn rfl) one_3) (A5 rfl rfl rfl rfl rfl (A5 rfl rfl rfl rfl rfl (A3 rfl rfl rfl (AR rfl (kn rfl) (kn rfl) (by omega) hq AT sle_22 esz_22 rfl) (A3 rfl rfl rfl (AG rfl (kn rfl) one_3) (A3 rfl rfl rfl (A4 rfl (kn rfl) (kn rfl) DG) .nil))))))))) ?_
  try refine A1 ?_
  refine AC rfl (fun h1=>?_) (fun h1=>?_)
  ·try refine A1 ?_
   refine A0 (A6 rfl rfl rfl rfl rfl .nil) ?_
   try refine A1 ?_
   exact AB rfl rfl (.tmp (kn rfl) (.nil)) (CM (decide_eq_false fun e=>by subst e;have e1:=hp.symm.trans hq;injection e1 with e1;simp[e1]at h1).symm) rfl
  have h2:p=q:=by simpa using h1
  try refine A1 ?_
  refine A0 (A3 rfl rfl rfl (A4 rfl (kn rfl) (kn rfl) (AE (by first | omega | (dsimp only;omega)))) (A5 rfl rfl rfl rfl rfl .nil)) ?_
  try refine A1 ?_
  refine AO ⟨i+1,by omega,he.2 h2⟩ (by dsimp only;omega) (fun K=>AH ⟨s_t,s_t,s_t,s_t,trivial⟩ trivial trivial)
 rw[List.take_of_length_le (ltf h),List.take_of_length_le (by have:=ltf h;omega)]at ht
 try refine A1 ?_
 refine A0 (A6 rfl rfl rfl rfl rfl .nil) ?_
 try refine A1 ?_
 exact AB rfl rfl (.tmp (kn rfl) (.nil)) (CM (decide_eq_true ht).symm) rfl
theorem KY{k c:Int}{a b:List Int}(hr:B9 (k,c)=true)(hA:tkA k c<=(a.length:Int))(hB:tkB k c<=(b.length:Int))(h1:k=1->a.take (tkA k c).toNat=b.take (tkB k c).toNat):mvs (List.replicate c.toNat k) (a,b)=some (a.drop (tkA k c).toNat,b.drop (tkB k c).toNat):=by
 obtain⟨⟨k1,k2⟩,k3⟩:=B3.1 hr
 simp only at k1 k2 k3
 by_cases e1:k=1
 ·have ea:tkA k c=c:=if_pos (.inl e1)
  have eb:tkB k c=c:=if_pos (.inl e1)
  rw[ea,eb]at h1 ⊢
  rw[ea]at hA
  rw[eb]at hB
  subst e1
  rw[F4,if_pos ⟨by omega,by omega,h1 rfl⟩]
 ·by_cases e2:k=2
  ·have ea:tkA k c=c:=if_pos (.inr e2)
   have eb:tkB k c=0:=if_neg (by omega)
   rw[ea,eb]
   rw[ea]at hA
   subst e2
   rw[DD,if_pos (by omega)]
   rfl
  ·have e3:k=3:=by omega
   have ea:tkA k c=0:=if_neg (by omega)
   have eb:tkB k c=c:=if_pos (.inr e3)
   rw[ea,eb]
   rw[eb]at hB
   subst e3
   rw[CZ,if_pos (by omega)]
   rfl
theorem HP{k c:Int}{a b:List Int}(hr:B9 (k,c)=true)(h:(a.length:Int)<tkA k c\/(b.length:Int)<tkB k c\/(k=1/\a.take (tkA k c).toNat≠b.take (tkB k c).toNat)):mvs (List.replicate c.toNat k) (a,b)=none:=by
 obtain⟨⟨k1,k2⟩,k3⟩:=B3.1 hr
 simp only at k1 k2 k3
 by_cases e1:k=1
 ·have ea:tkA k c=c:=if_pos (.inl e1)
  have eb:tkB k c=c:=if_pos (.inl e1)
  rw[ea,eb]at h
  subst e1
  rw[F4,if_neg fun h2=>?_]
  rcases h with h | h | h
  ·omega
  ·omega
  ·exact h.2 h2.2.2
 ·by_cases e2:k=2
  ·have ea:tkA k c=c:=if_pos (.inr e2)
   have eb:tkB k c=0:=if_neg (by omega)
   rw[ea,eb]at h
   subst e2
   rw[DD,if_neg (by omega)]
  ·have e3:k=3:=by omega
   have ea:tkA k c=0:=if_neg (by omega)
   have eb:tkB k c=c:=if_pos (.inr e3)
   rw[ea,eb]at h
   subst e3
   rw[CZ,if_neg (by omega)]
theorem O6{k c:Int}(h:1<=c):0<=tkA k c/\0<=tkB k c:=by
 unfold tkA tkB
 constructor<;>split<;>omega
theorem zz{a b:Int}(h:decide (a<b)=false):b<=a:=by have:=of_decide_eq_false h;omega
set_option maxHeartbeats 1000000 in
theorem MY(rs:List Rn)(a b:List Int)(hrs:rs.length<=1000000)(ha:a.length<=1000000)(hb:b.length<=1000000):EF Try.prog [] 20 [.one (BH rs),.one (zsD a),.one (zsD b)] (.part (bP (C8 rs a b))):=by
 refine AL 65 Try.func20 rfl rfl rfl fun w D=>?_
 try refine A1 ?_
 refine A0 (A6 rfl rfl rfl rfl rfl .nil) ?_
 try refine A1 ?_
 refine A0 (A5 rfl rfl rfl rfl rfl (A3 rfl rfl rfl (AN rfl (kn rfl) sle_28) (A5 rfl rfl rfl rfl rfl .nil))) ?_
 try refine A1 ?_
 refine BC (ι:={ t:Nat×List Int×List Int // t.1<=rs.length/\t.2.1.length<=1000000/\t.2.2.length<=1000000/\C8 rs a b=C8 (rs.drop t.1) t.2.1 t.2.2 })
  (fun t=>[(1,.part (.one (zsD t.1.2.1))),(2,.part (.one (zsD t.1.2.2))),(11,.part (.one (BH rs))),(12,zI (rs.length:Int)),(13,zI (t.1.1:Int))])
  (fun _=>[]) (fun _=>[]) (fun t=>rs.length-t.1.1) ⟨(0,a,b),by dsimp only;omega,ha,hb,rfl⟩
  (fun K=>AH ⟨s_t,s_t,s_t,s_t,s_t,trivial⟩ trivial trivial) ?_
 clear ha hb
 rintro⟨⟨i,a',b'⟩,hi,ha,hb,hw⟩
 dsimp only at hi ha hb hw ⊢
 try refine A1 ?_
 refine A0 (A3 rfl rfl rfl (A4 rfl (kn rfl) (kn rfl) BU) .nil) ?_
 try refine A1 ?_
 refine AC rfl (fun h=>?_) (fun h=>?_)
 ·obtain⟨⟨k,c⟩,hp⟩:∃ p,rs[i]?=some p:=⟨_,List.getElem?_eq_getElem (ltd h)⟩
  have hlt:=ltd h
  have htk:=L6 k c
  have hri:=FE (k,c)
  rw[II hp]at hw
  try refine A1 ?_
  refine AF ?_
  refine AK (AR rfl (kn rfl) (kn rfl) (by omega) hp BO sle_28 esz_28 rfl) ?_
  refine AK (B6 rfl (kn rfl) agg_45 sz_45) ?_
  refine CF 8 [.is (.int .i64 0),.is (.int .i64 0)] rfl rfl rfl rfl zr_45 (fun w D M V=>⟨rfl,fun j x v h1 h2=>CH _ h1 h2 rfl⟩) rfl rfl rfl rfl ?_
  refine BV rfl rfl rfl (kn rfl) rfl (kn rfl) rfl rfl sz_45 ?_
  refine AD ?_
  try refine A1 ?_
  refine A0 (A3 rfl rfl rfl (BI (ds:=[_,_]) 2 rfl (kn rfl) rfl rfl agg_45 sz_45 rfl) (A3 rfl rfl rfl (AU rfl (by kernel_rfl) (htk) ⟨(kn rfl),trivial⟩) (A5 rfl rfl rfl rfl rfl (A3 rfl rfl rfl (AZ rfl (kn rfl) rfl) (A3 rfl rfl rfl (AZ rfl (kn rfl) rfl) (A6 rfl rfl rfl rfl rfl (A6 rfl rfl rfl rfl rfl .nil))))))) ?_
  try refine A1 ?_
  refine A0 (A3 rfl rfl rfl (BI (ds:=[_,_]) 2 rfl (kn rfl) rfl rfl agg_45 sz_45 rfl) (A3 rfl rfl rfl (AU rfl (by kernel_rfl) (hri) ⟨(kn rfl),trivial⟩) (A3 rfl rfl rfl (CX rfl (kn rfl)) (A5 rfl rfl rfl rfl rfl (Walk.gd _ rfl rfl rfl (fun h=>AA rfl (kn rfl)) (Walk.gd _ rfl rfl rfl (fun h=>AA rfl (kn rfl)) (Walk.gd _ rfl rfl rfl (fun h=>AN rfl (A2 rfl h) sle_22) (Walk.gd _ rfl rfl rfl (fun h=>A4 rfl (A2 rfl h) (A2 rfl h) CE) (A3 rfl rfl rfl (DU rfl (kn rfl) (fun hb=>A2 rfl hb)) (A5 rfl rfl rfl rfl rfl (Walk.gd _ rfl rfl rfl (fun h=>AA rfl (kn rfl)) (Walk.gd _ rfl rfl rfl (fun h=>AA rfl (kn rfl)) (Walk.gd _ rfl rfl rfl (fun h=>AN rfl (A2 rfl h) sle_22) (Walk.gd _ rfl rfl rfl (fun h=>A4 rfl (A2 rfl h) (A2 rfl h) CE) (A3 rfl rfl rfl (DU rfl (kn rfl) (fun hb=>A2 rfl hb)) .nil))))))))))))))) ?_
  try refine A1 ?_
  refine AC rfl (fun h1=>?_) (fun h1=>?_)
  ·have hf:C8 ((k,c)::rs.drop (i+1)) a' b'=false:=by
    cases hr:B9 (k,c)with
    | false=>exact ID hr
    | true=>
     refine FH (HP hr ?_)
     rw[hr]at h1
     simp only[Bool.not_true,Bool.false_or,Bool.or_eq_true,decide_eq_true_eq]at h1
     rcases h1 with h1 | h1
     ·exact .inl h1
     ·exact .inr (.inl h1)
   try refine A1 ?_
   refine A0 (A6 rfl rfl rfl rfl rfl .nil) ?_
   try refine A1 ?_
   exact AB rfl rfl (.tmp (kn rfl) (.nil)) (CM (by rw[hw,hf])) rfl
  rw[Bool.or_eq_false_iff,Bool.or_eq_false_iff]at h1
  have hr:B9 (k,c)=true:=by simpa using h1.1.1
  have hA:=zz h1.1.2
  have hB:=zz h1.2
  have hnn:=O6 (k:=k) (c:=c) (B3.1 hr).2
  have heq:=KA (a'.take (tkA k c).toNat) (b'.take (tkB k c).toNat) (by rw[List.length_take];omega) (by rw[List.length_take];omega)
  try refine A1 ?_
  refine CA CB (by kernel_rfl) (A3 rfl rfl rfl (A8 rfl (kn rfl) off_45_0) (A3 rfl rfl rfl (A7 rfl (kn rfl) rfl rfl one_3) (A3 rfl rfl rfl (A4 rfl (kn rfl) (kn rfl) B2) (A5 rfl rfl rfl rfl rfl (Walk.gd _ rfl rfl rfl (fun h=>AA rfl (kn rfl)) (Walk.gd _ rfl rfl rfl (fun h=>AA rfl (kn rfl)) (Walk.gd _ rfl rfl rfl (fun h=>EU rfl (A2 rfl h) (A2 rfl h) ⟨hnn.1,hA⟩ AT sle_22 esz_22) (Walk.gd _ rfl rfl rfl (fun h=>AA rfl (kn rfl)) (Walk.gd _ rfl rfl rfl (fun h=>AA rfl (kn rfl)) (Walk.gd _ rfl rfl rfl (fun h=>EU rfl (A2 rfl h) (A2 rfl h) ⟨hnn.2,hB⟩ AT sle_22 esz_22) (Walk.gd _ rfl rfl rfl (fun h=>AU rfl (by kernel_rfl) (heq) ⟨(A2 rfl h),⟨(A2 rfl h),trivial⟩⟩) (Walk.gd _ rfl rfl rfl (fun h=>CX rfl (A2 rfl h)) (A3 rfl rfl rfl (BB rfl (kn rfl) (fun hb=>A2 rfl hb)) .nil))))))))))))) ?_
  try refine A1 ?_
  refine AC rfl (fun h2=>?_) (fun h2=>?_)
  ·have hno:=HP (a:=a') (b:=b') hr (.inr (.inr ⟨of_decide_eq_true (gl h2),by simpa using gr h2⟩))
   try refine A1 ?_
   refine A0 (A6 rfl rfl rfl rfl rfl .nil) ?_
   try refine A1 ?_
   exact AB rfl rfl (.tmp (kn rfl) (.nil)) (CM (by rw[hw,FH hno])) rfl
  have hgo:=KY (a:=a') (b:=b') hr hA hB fun e=>by
   rw[decide_eq_true e,Bool.true_and]at h2
   simpa using h2
  have hw2:=K8 (p:=(k,c)) (r:=rs.drop (i+1)) hr hgo
  try refine A1 ?_
  refine CA CB (by kernel_rfl) (A5 rfl rfl rfl rfl rfl (A5 rfl rfl rfl rfl rfl (A3 rfl rfl rfl (B5 rfl (kn rfl) (kn rfl) (by omega) AT sle_22 esz_22) (A5 rfl rfl rfl rfl rfl (A5 rfl rfl rfl rfl rfl (A3 rfl rfl rfl (B5 rfl (kn rfl) (kn rfl) (by omega) AT sle_22 esz_22) (A6 rfl rfl rfl rfl rfl (A6 rfl rfl rfl rfl rfl .nil)))))))) ?_
  try refine A1 ?_
  refine A0 (A3 rfl rfl rfl (A4 rfl (kn rfl) (kn rfl) (AE (by first | omega | (dsimp only;omega)))) (A5 rfl rfl rfl rfl rfl .nil)) ?_
  try refine A1 ?_
  refine AO ⟨(i+1,a'.drop (tkA k c).toNat,b'.drop (tkB k c).toNat),by dsimp only;omega,by dsimp only;rw[List.length_drop];omega,by dsimp only;rw[List.length_drop];omega,by dsimp only;rw[hw,hw2]⟩ (by dsimp only;omega) (fun K=>AH ⟨s_t,s_t,s_t,s_t,s_t,trivial⟩ trivial trivial)
 rw[List.drop_eq_nil_of_le (ltf h),IZ]at hw
 try refine A1 ?_
 refine A0 (A5 rfl rfl rfl rfl rfl (A3 rfl rfl rfl (AN rfl (kn rfl) sle_22) (A3 rfl rfl rfl (A4 rfl (kn rfl) (kn rfl) B2) (A5 rfl rfl rfl rfl rfl (Walk.gd _ rfl rfl rfl (fun h=>AA rfl (kn rfl)) (Walk.gd _ rfl rfl rfl (fun h=>AN rfl (A2 rfl h) sle_22) (Walk.gd _ rfl rfl rfl (fun h=>A4 rfl (A2 rfl h) (kn rfl) B2) (A3 rfl rfl rfl (BB rfl (kn rfl) (fun hb=>A2 rfl hb)) (A6 rfl rfl rfl rfl rfl .nil))))))))) ?_
 try refine A1 ?_
 exact AB rfl rfl (.tmp (kn rfl) (.nil)) (CM (by rw[hw];congr 1<;>exact decide_eq_decide.2 (by omega))) rfl
theorem MW(p:Rn):0<=edR p/\edR p<=1048576:=by
 unfold edR
 split
 ·rename_i h
  simp only[Bool.and_eq_true,decide_eq_true_eq]at h
  have:=B3.1 h.1.1
  omega
 ·omega
theorem I9(r:List Rn):∀ i,0<=E8 edR (r.take i)/\E8 edR (r.take i)<=1048576*(i:Int)
 | 0=>by simp[E8]
 | i+1=>by
  have ih:=I9 r i
  cases h:r[i]? with
  | none=>
   rw[List.take_add_one,h,Option.toList_none,List.append_nil]
   omega
  | some p=>
   rw[FI h]
   have:=MW p
   omega
theorem JV(r:List Rn)(hr:r.length<=1000000):EF Try.prog [] 18 [.one (BH r)] (.part (zP (E8 edR r))):=by
 refine AL 30 Try.func18 rfl rfl rfl fun w D=>?_
 try refine A1 ?_
 refine A0 (A6 rfl rfl rfl rfl rfl .nil) ?_
 try refine A1 ?_
 refine A0 (A6 rfl rfl rfl rfl rfl .nil) ?_
 try refine A1 ?_
 refine A0 (A5 rfl rfl rfl rfl rfl (A3 rfl rfl rfl (AN rfl (kn rfl) sle_28) (A5 rfl rfl rfl rfl rfl .nil))) ?_
 try refine A1 ?_
 refine BC (ι:={ i:Nat // i<=r.length })
  (fun i=>[(3,zI (E8 edR (r.take i.1))),(6,.part (.one (BH r))),(7,zI (r.length:Int)),(8,zI (i.1:Int))])
  (fun _=>[]) (fun _=>[]) (fun i=>r.length-i.1) ⟨0,Nat.zero_le _⟩
  (fun K=>AH ⟨s_t,s_t,s_t,s_t,trivial⟩ trivial trivial) ?_
 rintro⟨i,hi⟩
 dsimp only at hi ⊢
 have hbd:=I9 r i
 try refine A1 ?_
 refine A0 (A3 rfl rfl rfl (A4 rfl (kn rfl) (kn rfl) BU) .nil) ?_
 try refine A1 ?_
 refine AC rfl (fun h=>?_) (fun h=>?_)
 ·have hlt:=ltd h
  obtain⟨⟨k,c⟩,hp⟩:∃ p,r[i]?=some p:=⟨_,List.getElem?_eq_getElem hlt⟩
  have hst:=FI (f:=edR) hp
  have hri:=FE (k,c)
  try refine A1 ?_
  refine AF ?_
  refine AK (AR rfl (kn rfl) (kn rfl) (by omega) hp BO sle_28 esz_28 rfl) ?_
  refine AK (B6 rfl (kn rfl) agg_45 sz_45) ?_
  refine CF 5 [.is (.int .i64 0),.is (.int .i64 0)] rfl rfl rfl rfl zr_45 (fun w D M V=>⟨rfl,fun j x v h1 h2=>CH _ h1 h2 rfl⟩) rfl rfl rfl rfl ?_
  refine BV rfl rfl rfl (kn rfl) rfl (kn rfl) rfl rfl sz_45 ?_
  refine AD ?_
  try refine A1 ?_
  refine A0 (A3 rfl rfl rfl (BI (ds:=[_,_]) 2 rfl (kn rfl) rfl rfl agg_45 sz_45 rfl) (A3 rfl rfl rfl (AU rfl (by kernel_rfl) (hri) ⟨(kn rfl),trivial⟩) (A5 rfl rfl rfl rfl rfl (Walk.gd _ rfl rfl rfl (fun h=>A8 rfl (kn rfl) off_45_0) (Walk.gd _ rfl rfl rfl (fun h=>A7 rfl (A2 rfl h) rfl rfl one_3) (Walk.gd _ rfl rfl rfl (fun h=>A4 rfl (A2 rfl h) (kn rfl) DG) (A3 rfl rfl rfl (BB rfl (kn rfl) (fun hb=>A2 rfl hb)) (A5 rfl rfl rfl rfl rfl (Walk.gd _ rfl rfl rfl (fun h=>A8 rfl (kn rfl) off_45_1) (Walk.gd _ rfl rfl rfl (fun h=>A7 rfl (A2 rfl h) rfl rfl one_3) (Walk.gd _ rfl rfl rfl (fun h=>A4 rfl (A2 rfl h) (kn rfl) F6) (A3 rfl rfl rfl (BB rfl (kn rfl) (fun hb=>A2 rfl hb)) .nil)))))))))))) ?_
  try refine A1 ?_
  refine AC rfl (fun h1=>?_) (fun h1=>?_)
  ·have hk:edR (k,c)=c:=if_pos h1
   have hc:c<=1048576:=of_decide_eq_true (gr h1)
   have hc1:1<=c:=(B3.1 (gl (gl h1))).2
   try refine A1 ?_
   refine A0 (A5 rfl rfl rfl rfl rfl (A3 rfl rfl rfl (A8 rfl (kn rfl) off_45_1) (A3 rfl rfl rfl (A7 rfl (kn rfl) rfl rfl one_3) (A3 rfl rfl rfl (A4 rfl (kn rfl) (kn rfl) (AE (by first | omega | (dsimp only;omega)))) (A6 rfl rfl rfl rfl rfl .nil))))) ?_
   try refine A1 ?_
   refine A0 (A3 rfl rfl rfl (A4 rfl (kn rfl) (kn rfl) (AE (by first | omega | (dsimp only;omega)))) (A5 rfl rfl rfl rfl rfl .nil)) ?_
   try refine A1 ?_
   refine AO ⟨i+1,hlt⟩ (by dsimp only;omega) (fun K=>AH ⟨s_z rfl (by dsimp only;rw[hst,hk]),s_t,s_t,s_t,trivial⟩ trivial trivial)
  ·have hk:edR (k,c)=0:=if_neg (by rw[h1];decide)
   try refine A1 ?_
   refine A0 (A3 rfl rfl rfl (A4 rfl (kn rfl) (kn rfl) (AE (by first | omega | (dsimp only;omega)))) (A5 rfl rfl rfl rfl rfl .nil)) ?_
   try refine A1 ?_
   refine AO ⟨i+1,hlt⟩ (by dsimp only;omega) (fun K=>AH ⟨s_z rfl (by dsimp only;rw[hst,hk,Int.add_zero]),s_t,s_t,s_t,trivial⟩ trivial trivial)
 rw[List.take_of_length_le (ltf h)]
 try refine A1 ?_
 refine A0 (A5 rfl rfl rfl rfl rfl (A6 rfl rfl rfl rfl rfl .nil)) ?_
 try refine A1 ?_
 exact AB rfl rfl (.tmp (kn rfl) (.nil)) (Imp.refl _) rfl
end Go.Proofs.Ytjpghcmlglhmbaa
