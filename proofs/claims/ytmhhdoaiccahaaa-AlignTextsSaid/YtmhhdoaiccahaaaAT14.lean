/- Part 14. Conditions: as each theorem says. -/
import Derived.Test.YtmhhdoaiccahaaaAT13
import Derived.Test.YtmhhdoaiccahaaaProg
set_option maxRecDepth 100000
namespace Go.Proofs.Ytmhhdoaiccahaaa
open Go.RowKit
theorem NO{k n h:Nat}(e:decide ((k:Int)<(n:Int)-(h:Int))=true):0<=(n:Int)-1-(k:Int):=by have:=of_decide_eq_true e;omega
theorem GM{k n h:Nat}(e:decide ((k:Int)<(n:Int)-(h:Int))=true):k<n-h:=by have:=of_decide_eq_true e;omega
theorem P7(l:List Int)(h k:Nat):∃ p,k<l.length-h->l[((l.length:Int)-1-(k:Int)).toNat]?=some p/\l[l.length-1-k]?=some p:=⟨l.getD (l.length-1-k) 0,fun hk=>by
 have e:((l.length:Int)-1-(k:Int)).toNat=l.length-1-k:=by omega
 rw[e,List.getD_eq_getElem?_getD,List.getElem?_eq_getElem (by omega)]
 exact⟨rfl,rfl⟩⟩
theorem F9{pre:List Int}{k:Int}{i j:Nat}(h:i<=j):pre++List.replicate (j-i) k++[k]=pre++List.replicate (j+1-i) k:=by
 rw[List.append_assoc,show j+1-i=(j-i)+1 by omega,List.replicate_succ']
set_option maxHeartbeats 2000000 in
theorem P1(a b:List Int)(ha:a.length<=1000000)(hb:b.length<=1000000):EF Try.prog [] 25 [.one (zsD a),.one (zsD b)] (.part (.one (zsD (apL a b)))):=by
 have hle:=JW a b
 have htl:=KR a b
 refine AU 112 Try.func25 rfl rfl rfl fun w D=>?_
 try refine A1 ?_
 refine A0 (A7 rfl rfl rfl rfl rfl .nil) ?_
 try refine A1 ?_
 refine A0 (A7 rfl rfl rfl rfl rfl .nil) ?_
 try refine A1 ?_
 refine B7 (ι:={ k:Nat // k<=hd a b })
  (fun k=>[(0,.part (.one (zsD a))),(1,.part (.one (zsD b))),(5,zI (k.1:Int))])
  (fun _=>[]) (fun _=>[]) (fun k=>hd a b-k.1) ⟨0,Nat.zero_le _⟩
  (fun K=>AE ⟨s_t,s_t,s_t,trivial⟩ trivial trivial) ?_
 rintro⟨k,hk⟩
 dsimp only at hk ⊢
 obtain⟨p,hp⟩:=G6 a k
 obtain⟨q,hq⟩:=G6 b k
 try refine A1 ?_
 refine C2 BP (by kernel_rfl) (A5 rfl rfl rfl rfl rfl (A5 rfl rfl rfl rfl rfl (A3 rfl rfl rfl (AO rfl (kn rfl) sle_41) (A3 rfl rfl rfl (A4 rfl (kn rfl) (kn rfl) B9) (A5 rfl rfl rfl rfl rfl (Walk.gd _ rfl rfl rfl (fun h=>A6 rfl (kn rfl)) (Walk.gd _ rfl rfl rfl (fun h=>A6 rfl (kn rfl)) (Walk.gd _ rfl rfl rfl (fun h=>AO rfl (A2 rfl h) sle_41) (Walk.gd _ rfl rfl rfl (fun h=>A4 rfl (A2 rfl h) (A2 rfl h) B9) (A3 rfl rfl rfl (BH rfl (kn rfl) (fun hb=>A2 rfl hb)) (A5 rfl rfl rfl rfl rfl (Walk.gd _ rfl rfl rfl (fun h=>A6 rfl (kn rfl)) (Walk.gd _ rfl rfl rfl (fun h=>A6 rfl (kn rfl)) (Walk.gd _ rfl rfl rfl (fun h=>AH rfl (A2 rfl h) (A2 rfl h) (by omega) (hp (ltd (gl h))) AS sle_41 esz_41 rfl) (Walk.gd _ rfl rfl rfl (fun h=>A8 rfl (A2 rfl h) one_3) (Walk.gd _ rfl rfl rfl (fun h=>A6 rfl (kn rfl)) (Walk.gd _ rfl rfl rfl (fun h=>A6 rfl (kn rfl)) (Walk.gd _ rfl rfl rfl (fun h=>AH rfl (A2 rfl h) (A2 rfl h) (by omega) (hq (ltd (gr h))) AS sle_41 esz_41 rfl) (Walk.gd _ rfl rfl rfl (fun h=>A8 rfl (A2 rfl h) one_3) (Walk.gd _ rfl rfl rfl (fun h=>A4 rfl (A2 rfl h) (A2 rfl h) B4) (A3 rfl rfl rfl (BH rfl (kn rfl) (fun hb=>A2 rfl hb)) .nil))))))))))))))))))))) ?_
 try refine A1 ?_
 refine AC rfl (fun h=>?_) (fun h=>?_)
 ·have hx:=ltd (gl (gl h))
  have hy:=ltd (gr (gl h))
  have hlt:=(JG hk (hp hx) (hq hy)).1 (of_decide_eq_true (gr h))
  try refine A1 ?_
  refine A0 (A5 rfl rfl rfl rfl rfl (A3 rfl rfl rfl (A4 rfl (kn rfl) (kn rfl) (A9 (by first | omega | (dsimp only;omega)))) (A7 rfl rfl rfl rfl rfl .nil))) ?_
  try refine A1 ?_
  refine AF ⟨k+1,hlt⟩ (by dsimp only;omega) (fun K=>AE ⟨s_t,s_t,s_t,trivial⟩ trivial trivial)
 obtain rfl:k=hd a b:=by
  rcases Nat.lt_or_ge k (hd a b)with h1 | h1
  ·have hx:k<a.length:=by omega
   have hy:k<b.length:=by omega
   have e:=(JG hk (hp hx) (hq hy)).2 h1
   rw[HO,HO,decide_eq_true hx,decide_eq_true hy,decide_eq_true e]at h
   cases h
  ·omega
 clear h hp hq hk
 try refine A1 ?_
 refine A0 (A7 rfl rfl rfl rfl rfl .nil) ?_
 try refine A1 ?_
 refine B7 (ι:={ k:Nat // k<=tlN a b })
  (fun k=>[(0,.part (.one (zsD a))),(1,.part (.one (zsD b))),(5,zI (hd a b:Int)),(6,zI (k.1:Int))])
  (fun _=>[]) (fun _=>[]) (fun k=>tlN a b-k.1) ⟨0,Nat.zero_le _⟩
  (fun K=>AE ⟨s_t,s_t,s_t,s_t,trivial⟩ trivial trivial) ?_
 rintro⟨k,hk⟩
 dsimp only at hk ⊢
 obtain⟨p,hp⟩:=P7 a (hd a b) k
 obtain⟨q,hq⟩:=P7 b (hd a b) k
 try refine A1 ?_
 refine C2 BP (by kernel_rfl) (A5 rfl rfl rfl rfl rfl (A5 rfl rfl rfl rfl rfl (A3 rfl rfl rfl (AO rfl (kn rfl) sle_41) (A5 rfl rfl rfl rfl rfl (A3 rfl rfl rfl (A4 rfl (kn rfl) (kn rfl) (AN (by first | omega | (dsimp only;omega)))) (A3 rfl rfl rfl (A4 rfl (kn rfl) (kn rfl) B9) (A5 rfl rfl rfl rfl rfl (Walk.gd _ rfl rfl rfl (fun h=>A6 rfl (kn rfl)) (Walk.gd _ rfl rfl rfl (fun h=>A6 rfl (kn rfl)) (Walk.gd _ rfl rfl rfl (fun h=>AO rfl (A2 rfl h) sle_41) (Walk.gd _ rfl rfl rfl (fun h=>A6 rfl (kn rfl)) (Walk.gd _ rfl rfl rfl (fun h=>A4 rfl (A2 rfl h) (A2 rfl h) (AN (by first | omega | (dsimp only;omega)))) (Walk.gd _ rfl rfl rfl (fun h=>A4 rfl (A2 rfl h) (A2 rfl h) B9) (A3 rfl rfl rfl (BH rfl (kn rfl) (fun hb=>A2 rfl hb)) (A5 rfl rfl rfl rfl rfl (Walk.gd _ rfl rfl rfl (fun h=>A6 rfl (kn rfl)) (Walk.gd _ rfl rfl rfl (fun h=>A6 rfl (kn rfl)) (Walk.gd _ rfl rfl rfl (fun h=>AO rfl (A2 rfl h) sle_41) (Walk.gd _ rfl rfl rfl (fun h=>A4 rfl (A2 rfl h) (kn rfl) (AN (by first | omega | (dsimp only;omega)))) (Walk.gd _ rfl rfl rfl (fun h=>A6 rfl (kn rfl)) (Walk.gd _ rfl rfl rfl (fun h=>A4 rfl (A2 rfl h) (A2 rfl h) (AN (by first | omega | (dsimp only;omega)))) (Walk.gd _ rfl rfl rfl (fun h=>AH rfl (A2 rfl h) (A2 rfl h) (NO (gl h)) (hp (GM (gl h))).1 AS sle_41 esz_41 rfl) (Walk.gd _ rfl rfl rfl (fun h=>A8 rfl (A2 rfl h) one_3) (Walk.gd _ rfl rfl rfl (fun h=>A6 rfl (kn rfl)) (Walk.gd _ rfl rfl rfl (fun h=>A6 rfl (kn rfl)) (Walk.gd _ rfl rfl rfl (fun h=>AO rfl (A2 rfl h) sle_41) (Walk.gd _ rfl rfl rfl (fun h=>A4 rfl (A2 rfl h) (kn rfl) (AN (by first | omega | (dsimp only;omega)))) (Walk.gd _ rfl rfl rfl (fun h=>A6 rfl (kn rfl)) (Walk.gd _ rfl rfl rfl (fun h=>A4 rfl (A2 rfl h) (A2 rfl h) (AN (by first | omega | (dsimp only;omega)))) (Walk.gd _ rfl rfl rfl (fun h=>AH rfl (A2 rfl h) (A2 rfl h) (NO (gr h)) (hq (GM (gr h))).1 AS sle_41 esz_41 rfl) (Walk.gd _ rfl rfl rfl (fun h=>A8 rfl (A2 rfl h) one_3) (Walk.gd _ rfl rfl rfl (fun h=>A4 rfl (A2 rfl h) (A2 rfl h) B4) (A3 rfl rfl rfl (BH rfl (kn rfl) (fun hb=>A2 rfl hb)) .nil))))))))))))))))))))))))))))))))) ?_
 try refine A1 ?_
 refine AC rfl (fun h=>?_) (fun h=>?_)
 ·have hx:=GM (gl (gl h))
  have hy:=GM (gr (gl h))
  have hlt:=(NM hk hx hy (hp hx).2 (hq hy).2).1 (of_decide_eq_true (gr h))
  try refine A1 ?_
  refine A0 (A5 rfl rfl rfl rfl rfl (A3 rfl rfl rfl (A4 rfl (kn rfl) (kn rfl) (A9 (by first | omega | (dsimp only;omega)))) (A7 rfl rfl rfl rfl rfl .nil))) ?_
  try refine A1 ?_
  refine AF ⟨k+1,hlt⟩ (by dsimp only;omega) (fun K=>AE ⟨s_t,s_t,s_t,s_t,trivial⟩ trivial trivial)
 obtain rfl:k=tlN a b:=by
  rcases Nat.lt_or_ge k (tlN a b)with h1 | h1
  ·have hx:k<a.length-hd a b:=by omega
   have hy:k<b.length-hd a b:=by omega
   have e:=(NM hk hx hy (hp hx).2 (hq hy).2).2 h1
   rw[decide_eq_true (show(k:Int)<(a.length:Int)-(hd a b:Int) by omega),decide_eq_true (show(k:Int)<(b.length:Int)-(hd a b:Int) by omega),decide_eq_true e]at h
   cases h
  ·omega
 clear h hp hq hk
 try refine A1 ?_
 refine AG ?_
 refine C7 1000 rfl rfl rfl rfl sl_41 ap_41 rfl rfl ?_
 refine B5 ?_
 refine AA ?_
 try refine A1 ?_
 refine A0 (A7 rfl rfl rfl rfl rfl .nil) ?_
 try refine A1 ?_
 refine B7 (ι:={ j:Nat // 0<=j/\j<=(hd a b) })
  (fun j=>[(0,.part (.one (zsD a))),(1,.part (.one (zsD b))),(5,zI (hd a b:Int)),(6,zI (tlN a b:Int)),(7,.own 1000),(8,zI (j.1:Int))])
  (fun _=>[]) (fun j=>[(1000,⟨3,1,(([]:List Int)++List.replicate (j.1-0) 1).length,(([]:List Int)++List.replicate (j.1-0) 1).flatMap zD1,false⟩)]) (fun j=>(hd a b)-j.1) ⟨0,by omega,by omega⟩
  (fun K=>AE ⟨s_t,s_t,s_t,s_t,s_t,s_t,trivial⟩ trivial ⟨by dsimp only;rw[Nat.sub_self,List.replicate_zero,List.append_nil];rfl,trivial⟩) ?_
 rintro⟨j,hj1,hj2⟩
 dsimp only at hj1 hj2 ⊢
 have hout:(([]:List Int)++List.replicate (j-0) 1).length<=3000000:=by simp only[List.length_append,List.length_replicate,List.length_nil];omega
 have hsn:=F9 (pre:=([]:List Int)) (k:=1) hj1
 generalize ho:([]:List Int)++List.replicate (j-0) 1=out at hout hsn ⊢
 try refine A1 ?_
 refine A0 (A5 rfl rfl rfl rfl rfl (A5 rfl rfl rfl rfl rfl (A3 rfl rfl rfl (A4 rfl (kn rfl) (kn rfl) B9) .nil))) ?_
 try refine A1 ?_
 refine AC rfl (fun h=>?_) (fun h=>?_)
 ·try refine A1 ?_
  refine AG ?_
  refine AI ?_
  refine AJ (AD (ds:=[_]) [(0,_)] rfl ⟨rfl,(kn rfl),trivial⟩ rfl sl_41 sz_3 zr_3 (fun w D=>.cons (.cell _) (.nil _ _)) rfl rfl rfl rfl rfl) ?_
  refine AW rfl rfl rfl rfl (kn rfl) rfl (kn rfl) sl_41 ap_41 rfl rfl (by omega) (by omega) ?_
  refine BG (CD out 1) (CC out 1) ?_
  refine B5 ?_
  refine AA ?_
  try refine A1 ?_
  rw[hsn]
  refine A0 (A5 rfl rfl rfl rfl rfl (A3 rfl rfl rfl (A4 rfl (kn rfl) (kn rfl) (A9 (by first | omega | (dsimp only;omega)))) (A7 rfl rfl rfl rfl rfl .nil))) ?_
  try refine A1 ?_
  refine AF ⟨j+1,by omega,by have:=of_decide_eq_true h;omega⟩ (by dsimp only;have:=of_decide_eq_true h;omega) (fun K=>AE ⟨s_t,s_t,s_t,s_t,s_t,s_t,trivial⟩ trivial ⟨rfl,trivial⟩)
 obtain rfl:j=(hd a b):=by have:=of_decide_eq_false h;omega
 rw[<- ho]
 clear hj1 hj2 hout hsn h ho
 try refine A1 ?_
 rw[List.nil_append,Nat.sub_zero]
 refine A0 (A5 rfl rfl rfl rfl rfl (A7 rfl rfl rfl rfl rfl .nil)) ?_
 try refine A1 ?_
 refine B7 (ι:={ j:Nat // (hd a b)<=j/\j<=(a.length-tlN a b) })
  (fun j=>[(0,.part (.one (zsD a))),(1,.part (.one (zsD b))),(5,zI (hd a b:Int)),(6,zI (tlN a b:Int)),(7,.own 1000),(9,zI (j.1:Int))])
  (fun _=>[]) (fun j=>[(1000,⟨3,1,(List.replicate (hd a b) (1:Int)++List.replicate (j.1-(hd a b)) 2).length,(List.replicate (hd a b) (1:Int)++List.replicate (j.1-(hd a b)) 2).flatMap zD1,false⟩)]) (fun j=>(a.length-tlN a b)-j.1) ⟨(hd a b),by omega,by omega⟩
  (fun K=>AE ⟨s_t,s_t,s_t,s_t,s_t,s_t,trivial⟩ trivial ⟨by dsimp only;rw[Nat.sub_self,List.replicate_zero,List.append_nil];rfl,trivial⟩) ?_
 rintro⟨j,hj1,hj2⟩
 dsimp only at hj1 hj2 ⊢
 have hout:(List.replicate (hd a b) (1:Int)++List.replicate (j-(hd a b)) 2).length<=3000000:=by simp only[List.length_append,List.length_replicate,List.length_nil];omega
 have hsn:=F9 (pre:=List.replicate (hd a b) (1:Int)) (k:=2) hj1
 generalize ho:List.replicate (hd a b) (1:Int)++List.replicate (j-(hd a b)) 2=out at hout hsn ⊢
 try refine A1 ?_
 refine A0 (A5 rfl rfl rfl rfl rfl (A5 rfl rfl rfl rfl rfl (A3 rfl rfl rfl (AO rfl (kn rfl) sle_41) (A5 rfl rfl rfl rfl rfl (A3 rfl rfl rfl (A4 rfl (kn rfl) (kn rfl) (AN (by first | omega | (dsimp only;omega)))) (A3 rfl rfl rfl (A4 rfl (kn rfl) (kn rfl) B9) .nil)))))) ?_
 try refine A1 ?_
 refine AC rfl (fun h=>?_) (fun h=>?_)
 ·try refine A1 ?_
  refine AG ?_
  refine AI ?_
  refine AJ (AD (ds:=[_]) [(0,_)] rfl ⟨rfl,(kn rfl),trivial⟩ rfl sl_41 sz_3 zr_3 (fun w D=>.cons (.cell _) (.nil _ _)) rfl rfl rfl rfl rfl) ?_
  refine AW rfl rfl rfl rfl (kn rfl) rfl (kn rfl) sl_41 ap_41 rfl rfl (by omega) (by omega) ?_
  refine BG (CD out 2) (CC out 2) ?_
  refine B5 ?_
  refine AA ?_
  try refine A1 ?_
  rw[hsn]
  refine A0 (A5 rfl rfl rfl rfl rfl (A3 rfl rfl rfl (A4 rfl (kn rfl) (kn rfl) (A9 (by first | omega | (dsimp only;omega)))) (A7 rfl rfl rfl rfl rfl .nil))) ?_
  try refine A1 ?_
  refine AF ⟨j+1,by omega,by have:=of_decide_eq_true h;omega⟩ (by dsimp only;have:=of_decide_eq_true h;omega) (fun K=>AE ⟨s_t,s_t,s_t,s_t,s_t,s_t,trivial⟩ trivial ⟨rfl,trivial⟩)
 obtain rfl:j=(a.length-tlN a b):=by have:=of_decide_eq_false h;omega
 rw[<- ho]
 clear hj1 hj2 hout hsn h ho
 try refine A1 ?_
 refine A0 (A5 rfl rfl rfl rfl rfl (A7 rfl rfl rfl rfl rfl .nil)) ?_
 try refine A1 ?_
 refine B7 (ι:={ j:Nat // (hd a b)<=j/\j<=(b.length-tlN a b) })
  (fun j=>[(0,.part (.one (zsD a))),(1,.part (.one (zsD b))),(5,zI (hd a b:Int)),(6,zI (tlN a b:Int)),(7,.own 1000),(10,zI (j.1:Int))])
  (fun _=>[]) (fun j=>[(1000,⟨3,1,((List.replicate (hd a b) (1:Int)++List.replicate (a.length-tlN a b-hd a b) 2)++List.replicate (j.1-(hd a b)) 3).length,((List.replicate (hd a b) (1:Int)++List.replicate (a.length-tlN a b-hd a b) 2)++List.replicate (j.1-(hd a b)) 3).flatMap zD1,false⟩)]) (fun j=>(b.length-tlN a b)-j.1) ⟨(hd a b),by omega,by omega⟩
  (fun K=>AE ⟨s_t,s_t,s_t,s_t,s_t,s_t,trivial⟩ trivial ⟨by dsimp only;rw[Nat.sub_self,List.replicate_zero,List.append_nil];rfl,trivial⟩) ?_
 rintro⟨j,hj1,hj2⟩
 dsimp only at hj1 hj2 ⊢
 have hout:((List.replicate (hd a b) (1:Int)++List.replicate (a.length-tlN a b-hd a b) 2)++List.replicate (j-(hd a b)) 3).length<=3000000:=by simp only[List.length_append,List.length_replicate,List.length_nil];omega
 have hsn:=F9 (pre:=(List.replicate (hd a b) (1:Int)++List.replicate (a.length-tlN a b-hd a b) 2)) (k:=3) hj1
 generalize ho:(List.replicate (hd a b) (1:Int)++List.replicate (a.length-tlN a b-hd a b) 2)++List.replicate (j-(hd a b)) 3=out at hout hsn ⊢
 try refine A1 ?_
 refine A0 (A5 rfl rfl rfl rfl rfl (A5 rfl rfl rfl rfl rfl (A3 rfl rfl rfl (AO rfl (kn rfl) sle_41) (A5 rfl rfl rfl rfl rfl (A3 rfl rfl rfl (A4 rfl (kn rfl) (kn rfl) (AN (by first | omega | (dsimp only;omega)))) (A3 rfl rfl rfl (A4 rfl (kn rfl) (kn rfl) B9) .nil)))))) ?_
 try refine A1 ?_
 refine AC rfl (fun h=>?_) (fun h=>?_)
 ·try refine A1 ?_
  refine AG ?_
  refine AI ?_
  refine AJ (AD (ds:=[_]) [(0,_)] rfl ⟨rfl,(kn rfl),trivial⟩ rfl sl_41 sz_3 zr_3 (fun w D=>.cons (.cell _) (.nil _ _)) rfl rfl rfl rfl rfl) ?_
  refine AW rfl rfl rfl rfl (kn rfl) rfl (kn rfl) sl_41 ap_41 rfl rfl (by omega) (by omega) ?_
  refine BG (CD out 3) (CC out 3) ?_
  refine B5 ?_
  refine AA ?_
  try refine A1 ?_
  rw[hsn]
  refine A0 (A5 rfl rfl rfl rfl rfl (A3 rfl rfl rfl (A4 rfl (kn rfl) (kn rfl) (A9 (by first | omega | (dsimp only;omega)))) (A7 rfl rfl rfl rfl rfl .nil))) ?_
  try refine A1 ?_
  refine AF ⟨j+1,by omega,by have:=of_decide_eq_true h;omega⟩ (by dsimp only;have:=of_decide_eq_true h;omega) (fun K=>AE ⟨s_t,s_t,s_t,s_t,s_t,s_t,trivial⟩ trivial ⟨rfl,trivial⟩)
 obtain rfl:j=(b.length-tlN a b):=by have:=of_decide_eq_false h;omega
 rw[<- ho]
 clear hj1 hj2 hout hsn h ho
 try refine A1 ?_
 refine A0 (A7 rfl rfl rfl rfl rfl .nil) ?_
 try refine A1 ?_
 refine B7 (ι:={ j:Nat // 0<=j/\j<=(tlN a b) })
  (fun j=>[(0,.part (.one (zsD a))),(1,.part (.one (zsD b))),(5,zI (hd a b:Int)),(6,zI (tlN a b:Int)),(7,.own 1000),(11,zI (j.1:Int))])
  (fun _=>[]) (fun j=>[(1000,⟨3,1,((List.replicate (hd a b) (1:Int)++List.replicate (a.length-tlN a b-hd a b) 2++List.replicate (b.length-tlN a b-hd a b) 3)++List.replicate (j.1-0) 1).length,((List.replicate (hd a b) (1:Int)++List.replicate (a.length-tlN a b-hd a b) 2++List.replicate (b.length-tlN a b-hd a b) 3)++List.replicate (j.1-0) 1).flatMap zD1,false⟩)]) (fun j=>(tlN a b)-j.1) ⟨0,by omega,by omega⟩
  (fun K=>AE ⟨s_t,s_t,s_t,s_t,s_t,s_t,trivial⟩ trivial ⟨by dsimp only;rw[Nat.sub_self,List.replicate_zero,List.append_nil];rfl,trivial⟩) ?_
 rintro⟨j,hj1,hj2⟩
 dsimp only at hj1 hj2 ⊢
 have hout:((List.replicate (hd a b) (1:Int)++List.replicate (a.length-tlN a b-hd a b) 2++List.replicate (b.length-tlN a b-hd a b) 3)++List.replicate (j-0) 1).length<=3000000:=by simp only[List.length_append,List.length_replicate,List.length_nil];omega
 have hsn:=F9 (pre:=(List.replicate (hd a b) (1:Int)++List.replicate (a.length-tlN a b-hd a b) 2++List.replicate (b.length-tlN a b-hd a b) 3)) (k:=1) hj1
 generalize ho:(List.replicate (hd a b) (1:Int)++List.replicate (a.length-tlN a b-hd a b) 2++List.replicate (b.length-tlN a b-hd a b) 3)++List.replicate (j-0) 1=out at hout hsn ⊢
 try refine A1 ?_
 refine A0 (A5 rfl rfl rfl rfl rfl (A5 rfl rfl rfl rfl rfl (A3 rfl rfl rfl (A4 rfl (kn rfl) (kn rfl) B9) .nil))) ?_
 try refine A1 ?_
 refine AC rfl (fun h=>?_) (fun h=>?_)
 ·try refine A1 ?_
  refine AG ?_
  refine AI ?_
  refine AJ (AD (ds:=[_]) [(0,_)] rfl ⟨rfl,(kn rfl),trivial⟩ rfl sl_41 sz_3 zr_3 (fun w D=>.cons (.cell _) (.nil _ _)) rfl rfl rfl rfl rfl) ?_
  refine AW rfl rfl rfl rfl (kn rfl) rfl (kn rfl) sl_41 ap_41 rfl rfl (by omega) (by omega) ?_
  refine BG (CD out 1) (CC out 1) ?_
  refine B5 ?_
  refine AA ?_
  try refine A1 ?_
  rw[hsn]
  refine A0 (A5 rfl rfl rfl rfl rfl (A3 rfl rfl rfl (A4 rfl (kn rfl) (kn rfl) (A9 (by first | omega | (dsimp only;omega)))) (A7 rfl rfl rfl rfl rfl .nil))) ?_
  try refine A1 ?_
  refine AF ⟨j+1,by omega,by have:=of_decide_eq_true h;omega⟩ (by dsimp only;have:=of_decide_eq_true h;omega) (fun K=>AE ⟨s_t,s_t,s_t,s_t,s_t,s_t,trivial⟩ trivial ⟨rfl,trivial⟩)
 obtain rfl:j=(tlN a b):=by have:=of_decide_eq_false h;omega
 rw[<- ho]
 clear hj1 hj2 hout hsn h ho
 try refine A1 ?_
 refine AL 7 1000 rfl rfl rfl ?_
 refine A0 (A5 rfl rfl rfl rfl rfl (A7 rfl rfl rfl rfl rfl .nil)) ?_
 try refine A1 ?_
 exact AM rfl rfl (.tmp (kn rfl) (.nil)) (Imp.refl _) rfl
theorem MM(a b:List Int)(ha:a.length<=1000000)(hb:b.length<=1000000)(hn:400<edL a b):EF Try.prog [] 17 [.one (zsD a),.one (zsD b)] (.part (.one (zsD (apL a b)))):=by
 have ht:=JS a b ha hb
 have hp:=P1 a b ha hb
 refine AU 100 Try.func17 rfl rfl rfl fun w D=>?_
 try refine A1 ?_
 refine A0 (A7 rfl rfl rfl rfl rfl .nil) ?_
 try refine A1 ?_
 refine A0 (A5 rfl rfl rfl rfl rfl (A5 rfl rfl rfl rfl rfl (A3 rfl rfl rfl (B6 rfl (by kernel_rfl) (ht) ⟨(kn rfl),⟨(kn rfl),trivial⟩⟩) (A7 rfl rfl rfl rfl rfl .nil)))) ?_
 try refine A1 ?_
 refine AG ?_
 refine C7 1000 rfl rfl rfl rfl sl_41 ap_41 rfl rfl ?_
 refine B5 ?_
 refine AA ?_
 try refine A1 ?_
 refine A0 (A7 rfl rfl rfl rfl rfl (A7 rfl rfl rfl rfl rfl .nil)) ?_
 try refine A1 ?_
 refine A0 (A5 rfl rfl rfl rfl rfl (A3 rfl rfl rfl (AH rfl (kn rfl) (kn rfl) (by omega) (F6 a b (Nat.zero_le _)) D7 sle_35 esz_35 rfl) (A3 rfl rfl rfl (A8 rfl (kn rfl) one_41) (A3 rfl rfl rfl (AH rfl (kn rfl) (kn rfl) (by omega) (EE a b 0 (Nat.zero_le _)) AS sle_41 esz_41 rfl) (A3 rfl rfl rfl (A8 rfl (kn rfl) one_3) (A3 rfl rfl rfl (A4 rfl (kn rfl) (kn rfl) E4) .nil)))))) ?_
 try refine A1 ?_
 refine AC rfl (fun _=>?_) (fun h=>absurd (show(400:Int)<(edL a b:Int) by omega) (of_decide_eq_false h))
 try refine A1 ?_
 refine A0 (A5 rfl rfl rfl rfl rfl (A5 rfl rfl rfl rfl rfl (A3 rfl rfl rfl (B6 rfl (by kernel_rfl) (hp) ⟨(kn rfl),⟨(kn rfl),trivial⟩⟩) (A7 rfl rfl rfl rfl rfl .nil)))) ?_
 try refine A1 ?_
 exact AM rfl rfl (.tmp (kn rfl) (.nil)) (Imp.refl _) rfl
theorem OR(a b:List Int)(ha:a.length<=1000000)(hb:b.length<=1000000):EF Try.prog [] 17 [.one (zsD a),.one (zsD b)] (.part (.one (zsD (BC a b)))):=by
 unfold BC
 by_cases h:400<edL a b
 ·rw[if_pos h]
  exact MM a b ha hb h
 ·rw[if_neg h]
  exact KL a b ha hb (by omega)
def rnD(p:Rn):List Dat:=[zC p.1,zC p.2]
theorem F2(p:Rn):(rnD p).length=2:=rfl
abbrev DR(l:List Rn):Dat:=.row 2 l.length (l.flatMap rnD)
theorem DX(l:List Rn):(l.flatMap rnD).length=l.length*2:=E6 F2 l
theorem OM(m:List Rn)(k c:Int):((m++[(k,c)]).flatMap rnD)[m.length*2+1]?=some (zC c)/\((m++[(k,c)]).flatMap rnD)[m.length*2]?=some (zC k):=by
 rw[List.flatMap_append]
 constructor
 ·rw[List.getElem?_append_right (by rw[DX];omega),DX,show m.length*2+1-m.length*2=1 by omega]
  rfl
 ·rw[List.getElem?_append_right (by rw[DX];omega),DX,Nat.sub_self]
  rfl
theorem N5(m:List Rn)(k c d:Int):((m++[(k,c)]).flatMap rnD).set (m.length*2+1) (zC d)=(m++[(k,d)]).flatMap rnD:=by
 rw[List.flatMap_append,List.flatMap_append,List.set_append_right _ _ (by rw[DX];omega),DX,show m.length*2+1-m.length*2=1 by omega]
 rfl
theorem IR(l:List Rn)(k c:Int):l.flatMap rnD++[zC k,zC c]=(l++[(k,c)]).flatMap rnD:=by simp[rnD]
theorem MN{l:List Int}{i:Nat}{k:Int}(h:l[i]?=some k):B2 (l.take (i+1))=BD (B2 (l.take i)) k 1:=by
 rw[List.take_add_one,h]
 exact C8 _ _
set_option maxHeartbeats 2000000 in
theorem LF(l:List Int)(hl:l.length<=3000000):EF Try.prog [] 16 [.one (zsD l)] (.part (.one (DR (B2 l)))):=by
 refine AU 42 Try.func16 rfl rfl rfl fun w D=>?_
 try refine A1 ?_
 refine A0 (A7 rfl rfl rfl rfl rfl .nil) ?_
 try refine A1 ?_
 refine AG ?_
 refine C7 1000 rfl rfl rfl rfl sl_44 ap_44 rfl rfl ?_
 refine B5 ?_
 refine AA ?_
 try refine A1 ?_
 refine A0 (A5 rfl rfl rfl rfl rfl (A3 rfl rfl rfl (AO rfl (kn rfl) sle_41) (A5 rfl rfl rfl rfl rfl .nil))) ?_
 try refine A1 ?_
 refine B7 (ι:={ i:Nat // i<=l.length })
  (fun i=>[(0,.part (.one (zsD l))),(3,.own 1000),(7,.part (.one (zsD l))),(8,zI (l.length:Int)),(9,zI (i.1:Int))])
  (fun _=>[]) (fun i=>[(1000,⟨49,2,(B2 (l.take i.1)).length,(B2 (l.take i.1)).flatMap rnD,false⟩)]) (fun i=>l.length-i.1) ⟨0,Nat.zero_le _⟩
  (fun K=>AE ⟨s_t,s_t,s_t,s_t,s_t,trivial⟩ trivial ⟨rfl,trivial⟩) ?_
 rintro⟨i,hi⟩
 dsimp only at hi ⊢
 try refine A1 ?_
 refine A0 (A3 rfl rfl rfl (A4 rfl (kn rfl) (kn rfl) B9) .nil) ?_
 try refine A1 ?_
 refine AC rfl (fun h=>?_) (fun h=>?_)
 ·have hlt:=ltd h
  obtain⟨k,hk⟩:∃ k,l[i]?=some k:=⟨_,List.getElem?_eq_getElem hlt⟩
  obtain⟨p,hp⟩:∃ p,0<i->l[((i:Int)-1).toNat]?=some p:=⟨l.getD (i-1) 0,fun h0=>by rw[show((i:Int)-1).toNat=i-1 by omega,List.getD_eq_getElem?_getD,List.getElem?_eq_getElem (by omega)];rfl⟩
  have hnext:=MN hk
  have hle:=E5 (l.take i)
  rw[List.length_take]at hle
  try refine A1 ?_
  refine A0 (A5 rfl rfl rfl rfl rfl (A3 rfl rfl rfl (AH rfl (kn rfl) (kn rfl) (by omega) hk AS sle_41 esz_41 rfl) (A3 rfl rfl rfl (A8 rfl (kn rfl) one_3) (A7 rfl rfl rfl rfl rfl (A7 rfl rfl rfl rfl rfl .nil))))) ?_
  try refine A1 ?_
  refine A0 (A5 rfl rfl rfl rfl rfl (A3 rfl rfl rfl (A4 rfl (kn rfl) (kn rfl) E4) (A5 rfl rfl rfl rfl rfl (Walk.gd _ rfl rfl rfl (fun h=>A6 rfl (kn rfl)) (Walk.gd _ rfl rfl rfl (fun h=>A6 rfl (kn rfl)) (Walk.gd _ rfl rfl rfl (fun h=>A4 rfl (A2 rfl h) (kn rfl) (AN (by first | omega | (dsimp only;omega)))) (Walk.gd _ rfl rfl rfl (fun h=>AH rfl (A2 rfl h) (A2 rfl h) (by have:=of_decide_eq_true h;omega) (hp (by have:=of_decide_eq_true h;omega)) AS sle_41 esz_41 rfl) (Walk.gd _ rfl rfl rfl (fun h=>A8 rfl (A2 rfl h) one_3) (Walk.gd _ rfl rfl rfl (fun h=>A6 rfl (kn rfl)) (Walk.gd _ rfl rfl rfl (fun h=>A4 rfl (A2 rfl h) (A2 rfl h) B4) (A3 rfl rfl rfl (BH rfl (kn rfl) (fun hb=>A2 rfl hb)) .nil))))))))))) ?_
  try refine A1 ?_
  refine AC rfl (fun h1=>?_) (fun h1=>?_)
  ·have h0:0<i:=by have:=of_decide_eq_true (gl h1);omega
   obtain rfl:=of_decide_eq_true (gr h1)
   obtain⟨j,rfl⟩:∃ j,i=j+1:=⟨i-1,by omega⟩
   have hp':l[j]?=some p:=by
    have:=hp h0
    rwa [show(((j+1:Nat):Int)-1).toNat=j by omega]at this
   obtain⟨m,c,hm⟩:=IE (l.take j) p
   rw[show l.take j++[p]=l.take (j+1) by rw[List.take_add_one,hp'];rfl]at hm
   have hc:c<=(l.length:Int):=by
    have:=(CN (l:=l.take (j+1)) (p:=(p,c)) (by rw[hm];simp)).2.1
    rw[List.length_take]at this
    simp only at this
    omega
   have hc1:1<=c:=(CN (l:=l.take (j+1)) (p:=(p,c)) (by rw[hm];simp)).1
   rw[hm,CA (by decide)]at hnext
   rw[hm]at hle ⊢
   have hml:(m++[(p,c)]).length=m.length+1:=by simp
   have hg:=(OM m p c).1
   have hst:=N5 m p c (c+1)
   have hfl:=DX (m++[(p,c)])
   rw[hml]at hle hfl
   refine BG hml rfl ?_
   try refine A1 ?_
   refine AG ?_
   refine AI ?_
   refine AI ?_
   refine AJ (C0 rfl (kn rfl) rfl sle_44) ?_
   refine AJ (A4 rfl (kn rfl) (kn rfl) (AN (by first | omega | (dsimp only;omega)))) ?_
   rw[show((m.length+1:Nat):Int)-1=(m.length:Int) by omega]
   refine AJ (AK (z:=(m.length:Int)) rfl (kn rfl) rfl (kn rfl) ⟨by omega,by omega⟩ sle_44 esz_44) ?_
   refine AJ (BO rfl (kn rfl) off_49_1) ?_
   refine AJ (AT rfl (kn rfl) rfl (by simpa using hg) one_3) ?_
   refine AJ (A4 rfl (kn rfl) (kn rfl) (A9 (by first | omega | (dsimp only;omega)))) ?_
   refine AJ (AK (z:=(m.length:Int)) rfl (kn rfl) rfl (kn rfl) ⟨by omega,by omega⟩ sle_44 esz_44) ?_
   refine AJ (BO rfl (kn rfl) off_49_1) ?_
   refine B8 (ds':=(m++[(p,c+1)]).flatMap rnD) rfl rfl rfl (kn rfl) rfl (kn rfl) rfl (by rw[hfl];omega) sz_3 (by simpa using hst) ?_ rfl
   refine AA ?_
   try refine A1 ?_
   refine A0 (A3 rfl rfl rfl (A4 rfl (kn rfl) (kn rfl) (A9 (by first | omega | (dsimp only;omega)))) (A5 rfl rfl rfl rfl rfl .nil)) ?_
   try refine A1 ?_
   refine AF ⟨j+1+1,by omega⟩ (by dsimp only;omega) (fun K=>AE ⟨s_t,s_t,s_t,s_t,s_t,trivial⟩ trivial ⟨by dsimp only;rw[hnext];simp;rfl,trivial⟩)
  have hstep:BD (B2 (l.take i)) k 1=B2 (l.take i)++[(k,1)]:=by
   rcases Nat.eq_zero_or_pos i with h0 | h0
   ·subst h0
    exact CE (by decide)
   ·obtain⟨j,rfl⟩:∃ j,i=j+1:=⟨i-1,by omega⟩
    have hp':l[j]?=some p:=by
     have:=hp h0
     rwa [show(((j+1:Nat):Int)-1).toNat=j by omega]at this
    obtain⟨m,c,hm⟩:=IE (l.take j) p
    rw[show l.take j++[p]=l.take (j+1) by rw[List.take_add_one,hp'];rfl]at hm
    rw[hm]
    refine DN (by decide) fun e=>?_
    rw[decide_eq_true e,decide_eq_true (show(0:Int)<((j+1:Nat):Int) by omega)]at h1
    cases h1
  rw[hstep]at hnext
  generalize hR:B2 (l.take i)=r at hnext hle ⊢
  try refine A1 ?_
  refine AG ?_
  refine AI ?_
  refine AI ?_
  refine AJ (C4 (ds:=[_,_]) [(0,_),(1,_)] rfl ⟨rfl,(kn rfl),⟨rfl,(kn rfl),trivial⟩⟩ rfl pl_49 zr_49 (fun w D=>.cons (.cell _) (.cons (.cell _) (.nil _ _))) rfl) ?_
  refine AJ (AD (ds:=[_,_]) [(0,_)] rfl ⟨rfl,(kn rfl),trivial⟩ rfl sl_44 sz_49 zr_49 (fun w D=>.cons (.cell _) (.cons (.cell _) (.nil _ _))) rfl rfl rfl rfl rfl) ?_
  refine AW rfl rfl rfl rfl (kn rfl) rfl (kn rfl) sl_44 ap_44 rfl rfl (by omega) (by omega) ?_
  refine BG (CD r (k,1)) (IR r k 1) ?_
  refine B5 ?_
  refine AA ?_
  try refine A1 ?_
  rw[<- hnext]
  refine A0 (A3 rfl rfl rfl (A4 rfl (kn rfl) (kn rfl) (A9 (by first | omega | (dsimp only;omega)))) (A5 rfl rfl rfl rfl rfl .nil)) ?_
  try refine A1 ?_
  refine AF ⟨i+1,by omega⟩ (by dsimp only;omega) (fun K=>AE ⟨s_t,s_t,s_t,s_t,s_t,trivial⟩ trivial ⟨rfl,trivial⟩)
 rw[List.take_of_length_le (ltf h)]
 try refine A1 ?_
 refine AL 3 1000 rfl rfl rfl ?_
 refine A0 (A5 rfl rfl rfl rfl rfl (A7 rfl rfl rfl rfl rfl .nil)) ?_
 try refine A1 ?_
 exact AM rfl rfl (.tmp (kn rfl) (.nil)) (Imp.refl _) rfl
end Go.Proofs.Ytmhhdoaiccahaaa
