/- Part 12. Conditions: as each theorem says. -/
import Derived.Test.YtjpghcmlglhmbaaMA11
import Derived.Test.YtjpghcmlglhmbaaProg
set_option maxRecDepth 100000
namespace Go.Proofs.Ytjpghcmlglhmbaa
open Go.RowKit
theorem LC{k n h:Nat}(e:decide ((k:Int)<(n:Int)-(h:Int))=true):0<=(n:Int)-1-(k:Int):=by have:=of_decide_eq_true e;omega
theorem F6{k n h:Nat}(e:decide ((k:Int)<(n:Int)-(h:Int))=true):k<n-h:=by have:=of_decide_eq_true e;omega
theorem L9(l:List Int)(h k:Nat):∃ p,k<l.length-h->l[((l.length:Int)-1-(k:Int)).toNat]?=some p/\l[l.length-1-k]?=some p:=⟨l.getD (l.length-1-k) 0,fun hk=>by
 have e:((l.length:Int)-1-(k:Int)).toNat=l.length-1-k:=by omega
 rw[e,List.getD_eq_getElem?_getD,List.getElem?_eq_getElem (by omega)]
 exact⟨rfl,rfl⟩⟩
theorem EA{pre:List Int}{k:Int}{i j:Nat}(h:i<=j):pre++List.replicate (j-i) k++[k]=pre++List.replicate (j+1-i) k:=by
 rw[List.append_assoc,show j+1-i=(j-i)+1 by omega,List.replicate_succ']
set_option maxHeartbeats 2000000 in
theorem K1(a b:List Int)(ha:a.length<=1000000)(hb:b.length<=1000000):EF Try.prog [] 21 [.one (zsD a),.one (zsD b)] (.part (.one (zsD (apL a b)))):=by
 have hle:=H8 a b
 have htl:=IF a b
 refine AT 112 Try.func21 rfl rfl rfl fun w D=>?_
 try refine A2 ?_
 refine A0 (A9 rfl rfl rfl rfl rfl .nil) ?_
 try refine A2 ?_
 refine A0 (A9 rfl rfl rfl rfl rfl .nil) ?_
 try refine A2 ?_
 refine BA (ι:={ k:Nat // k<=hd a b })
  (fun k=>[(0,.part (.one (zsD a))),(1,.part (.one (zsD b))),(5,zI (k.1:Int))])
  (fun _=>[]) (fun _=>[]) (fun k=>hd a b-k.1) ⟨0,Nat.zero_le _⟩
  (fun K=>AO ⟨s_t,s_t,s_t,trivial⟩ trivial trivial) ?_
 rintro⟨k,hk⟩
 dsimp only at hk ⊢
 obtain⟨p,hp⟩:=ET a k
 obtain⟨q,hq⟩:=ET b k
 try refine A2 ?_
 refine C8 BO (by kernel_rfl) (A6 rfl rfl rfl rfl rfl (A6 rfl rfl rfl rfl rfl (A4 rfl rfl rfl (AJ rfl (kn rfl) sle_22) (A4 rfl rfl rfl (A3 rfl (kn rfl) (kn rfl) BF) (A6 rfl rfl rfl rfl rfl (Walk.gd _ rfl rfl rfl (fun h=>A5 rfl (kn rfl)) (Walk.gd _ rfl rfl rfl (fun h=>A5 rfl (kn rfl)) (Walk.gd _ rfl rfl rfl (fun h=>AJ rfl (A1 rfl h) sle_22) (Walk.gd _ rfl rfl rfl (fun h=>A3 rfl (A1 rfl h) (A1 rfl h) BF) (A4 rfl rfl rfl (BC rfl (kn rfl) (fun hb=>A1 rfl hb)) (A6 rfl rfl rfl rfl rfl (Walk.gd _ rfl rfl rfl (fun h=>A5 rfl (kn rfl)) (Walk.gd _ rfl rfl rfl (fun h=>A5 rfl (kn rfl)) (Walk.gd _ rfl rfl rfl (fun h=>AF rfl (A1 rfl h) (A1 rfl h) (by omega) (hp (ltd (gl h))) AG sle_22 esz_22 rfl) (Walk.gd _ rfl rfl rfl (fun h=>A7 rfl (A1 rfl h) one_3) (Walk.gd _ rfl rfl rfl (fun h=>A5 rfl (kn rfl)) (Walk.gd _ rfl rfl rfl (fun h=>A5 rfl (kn rfl)) (Walk.gd _ rfl rfl rfl (fun h=>AF rfl (A1 rfl h) (A1 rfl h) (by omega) (hq (ltd (gr h))) AG sle_22 esz_22 rfl) (Walk.gd _ rfl rfl rfl (fun h=>A7 rfl (A1 rfl h) one_3) (Walk.gd _ rfl rfl rfl (fun h=>A3 rfl (A1 rfl h) (A1 rfl h) B2) (A4 rfl rfl rfl (BC rfl (kn rfl) (fun hb=>A1 rfl hb)) .nil))))))))))))))))))))) ?_
 try refine A2 ?_
 refine AE rfl (fun h=>?_) (fun h=>?_)
 ·have hx:=ltd (gl (gl h))
  have hy:=ltd (gr (gl h))
  have hlt:=(H4 hk (hp hx) (hq hy)).1 (of_decide_eq_true (gr h))
  try refine A2 ?_
  refine A0 (A6 rfl rfl rfl rfl rfl (A4 rfl rfl rfl (A3 rfl (kn rfl) (kn rfl) (AA (by first | omega | (dsimp only;omega)))) (A9 rfl rfl rfl rfl rfl .nil))) ?_
  try refine A2 ?_
  refine AS ⟨k+1,hlt⟩ (by dsimp only;omega) (fun K=>AO ⟨s_t,s_t,s_t,trivial⟩ trivial trivial)
 obtain rfl:k=hd a b:=by
  rcases Nat.lt_or_ge k (hd a b)with h1 | h1
  ·have hx:k<a.length:=by omega
   have hy:k<b.length:=by omega
   have e:=(H4 hk (hp hx) (hq hy)).2 h1
   rw[G4,G4,decide_eq_true hx,decide_eq_true hy,decide_eq_true e]at h
   cases h
  ·omega
 clear h hp hq hk
 try refine A2 ?_
 refine A0 (A9 rfl rfl rfl rfl rfl .nil) ?_
 try refine A2 ?_
 refine BA (ι:={ k:Nat // k<=tlN a b })
  (fun k=>[(0,.part (.one (zsD a))),(1,.part (.one (zsD b))),(5,zI (hd a b:Int)),(6,zI (k.1:Int))])
  (fun _=>[]) (fun _=>[]) (fun k=>tlN a b-k.1) ⟨0,Nat.zero_le _⟩
  (fun K=>AO ⟨s_t,s_t,s_t,s_t,trivial⟩ trivial trivial) ?_
 rintro⟨k,hk⟩
 dsimp only at hk ⊢
 obtain⟨p,hp⟩:=L9 a (hd a b) k
 obtain⟨q,hq⟩:=L9 b (hd a b) k
 try refine A2 ?_
 refine C8 BO (by kernel_rfl) (A6 rfl rfl rfl rfl rfl (A6 rfl rfl rfl rfl rfl (A4 rfl rfl rfl (AJ rfl (kn rfl) sle_22) (A6 rfl rfl rfl rfl rfl (A4 rfl rfl rfl (A3 rfl (kn rfl) (kn rfl) (AB (by first | omega | (dsimp only;omega)))) (A4 rfl rfl rfl (A3 rfl (kn rfl) (kn rfl) BF) (A6 rfl rfl rfl rfl rfl (Walk.gd _ rfl rfl rfl (fun h=>A5 rfl (kn rfl)) (Walk.gd _ rfl rfl rfl (fun h=>A5 rfl (kn rfl)) (Walk.gd _ rfl rfl rfl (fun h=>AJ rfl (A1 rfl h) sle_22) (Walk.gd _ rfl rfl rfl (fun h=>A5 rfl (kn rfl)) (Walk.gd _ rfl rfl rfl (fun h=>A3 rfl (A1 rfl h) (A1 rfl h) (AB (by first | omega | (dsimp only;omega)))) (Walk.gd _ rfl rfl rfl (fun h=>A3 rfl (A1 rfl h) (A1 rfl h) BF) (A4 rfl rfl rfl (BC rfl (kn rfl) (fun hb=>A1 rfl hb)) (A6 rfl rfl rfl rfl rfl (Walk.gd _ rfl rfl rfl (fun h=>A5 rfl (kn rfl)) (Walk.gd _ rfl rfl rfl (fun h=>A5 rfl (kn rfl)) (Walk.gd _ rfl rfl rfl (fun h=>AJ rfl (A1 rfl h) sle_22) (Walk.gd _ rfl rfl rfl (fun h=>A3 rfl (A1 rfl h) (kn rfl) (AB (by first | omega | (dsimp only;omega)))) (Walk.gd _ rfl rfl rfl (fun h=>A5 rfl (kn rfl)) (Walk.gd _ rfl rfl rfl (fun h=>A3 rfl (A1 rfl h) (A1 rfl h) (AB (by first | omega | (dsimp only;omega)))) (Walk.gd _ rfl rfl rfl (fun h=>AF rfl (A1 rfl h) (A1 rfl h) (LC (gl h)) (hp (F6 (gl h))).1 AG sle_22 esz_22 rfl) (Walk.gd _ rfl rfl rfl (fun h=>A7 rfl (A1 rfl h) one_3) (Walk.gd _ rfl rfl rfl (fun h=>A5 rfl (kn rfl)) (Walk.gd _ rfl rfl rfl (fun h=>A5 rfl (kn rfl)) (Walk.gd _ rfl rfl rfl (fun h=>AJ rfl (A1 rfl h) sle_22) (Walk.gd _ rfl rfl rfl (fun h=>A3 rfl (A1 rfl h) (kn rfl) (AB (by first | omega | (dsimp only;omega)))) (Walk.gd _ rfl rfl rfl (fun h=>A5 rfl (kn rfl)) (Walk.gd _ rfl rfl rfl (fun h=>A3 rfl (A1 rfl h) (A1 rfl h) (AB (by first | omega | (dsimp only;omega)))) (Walk.gd _ rfl rfl rfl (fun h=>AF rfl (A1 rfl h) (A1 rfl h) (LC (gr h)) (hq (F6 (gr h))).1 AG sle_22 esz_22 rfl) (Walk.gd _ rfl rfl rfl (fun h=>A7 rfl (A1 rfl h) one_3) (Walk.gd _ rfl rfl rfl (fun h=>A3 rfl (A1 rfl h) (A1 rfl h) B2) (A4 rfl rfl rfl (BC rfl (kn rfl) (fun hb=>A1 rfl hb)) .nil))))))))))))))))))))))))))))))))) ?_
 try refine A2 ?_
 refine AE rfl (fun h=>?_) (fun h=>?_)
 ·have hx:=F6 (gl (gl h))
  have hy:=F6 (gr (gl h))
  have hlt:=(L8 hk hx hy (hp hx).2 (hq hy).2).1 (of_decide_eq_true (gr h))
  try refine A2 ?_
  refine A0 (A6 rfl rfl rfl rfl rfl (A4 rfl rfl rfl (A3 rfl (kn rfl) (kn rfl) (AA (by first | omega | (dsimp only;omega)))) (A9 rfl rfl rfl rfl rfl .nil))) ?_
  try refine A2 ?_
  refine AS ⟨k+1,hlt⟩ (by dsimp only;omega) (fun K=>AO ⟨s_t,s_t,s_t,s_t,trivial⟩ trivial trivial)
 obtain rfl:k=tlN a b:=by
  rcases Nat.lt_or_ge k (tlN a b)with h1 | h1
  ·have hx:k<a.length-hd a b:=by omega
   have hy:k<b.length-hd a b:=by omega
   have e:=(L8 hk hx hy (hp hx).2 (hq hy).2).2 h1
   rw[decide_eq_true (show(k:Int)<(a.length:Int)-(hd a b:Int) by omega),decide_eq_true (show(k:Int)<(b.length:Int)-(hd a b:Int) by omega),decide_eq_true e]at h
   cases h
  ·omega
 clear h hp hq hk
 try refine A2 ?_
 refine AR ?_
 refine H2 1000 rfl rfl rfl rfl sl_22 ap_22 rfl rfl ?_
 refine B9 ?_
 refine AD ?_
 try refine A2 ?_
 refine A0 (A9 rfl rfl rfl rfl rfl .nil) ?_
 try refine A2 ?_
 refine BA (ι:={ j:Nat // 0<=j/\j<=(hd a b) })
  (fun j=>[(0,.part (.one (zsD a))),(1,.part (.one (zsD b))),(5,zI (hd a b:Int)),(6,zI (tlN a b:Int)),(7,.own 1000),(8,zI (j.1:Int))])
  (fun _=>[]) (fun j=>[(1000,⟨3,1,(([]:List Int)++List.replicate (j.1-0) 1).length,(([]:List Int)++List.replicate (j.1-0) 1).flatMap zD1,false⟩)]) (fun j=>(hd a b)-j.1) ⟨0,by omega,by omega⟩
  (fun K=>AO ⟨s_t,s_t,s_t,s_t,s_t,s_t,trivial⟩ trivial ⟨by dsimp only;rw[Nat.sub_self,List.replicate_zero,List.append_nil];rfl,trivial⟩) ?_
 rintro⟨j,hj1,hj2⟩
 dsimp only at hj1 hj2 ⊢
 have hout:(([]:List Int)++List.replicate (j-0) 1).length<=3000000:=by simp only[List.length_append,List.length_replicate,List.length_nil];omega
 have hsn:=EA (pre:=([]:List Int)) (k:=1) hj1
 generalize ho:([]:List Int)++List.replicate (j-0) 1=out at hout hsn ⊢
 try refine A2 ?_
 refine A0 (A6 rfl rfl rfl rfl rfl (A6 rfl rfl rfl rfl rfl (A4 rfl rfl rfl (A3 rfl (kn rfl) (kn rfl) BF) .nil))) ?_
 try refine A2 ?_
 refine AE rfl (fun h=>?_) (fun h=>?_)
 ·try refine A2 ?_
  refine AR ?_
  refine AL ?_
  refine AM (AH (ds:=[_]) [(0,_)] rfl ⟨rfl,(kn rfl),trivial⟩ rfl sl_22 sz_3 zr_3 (fun w D=>.cons (.cell _) (.nil _ _)) rfl rfl rfl rfl rfl) ?_
  refine B7 rfl rfl rfl rfl (kn rfl) rfl (kn rfl) sl_22 ap_22 rfl rfl (by omega) (by omega) ?_
  refine C2 (BU out 1) (CS out 1) ?_
  refine B9 ?_
  refine AD ?_
  try refine A2 ?_
  rw[hsn]
  refine A0 (A6 rfl rfl rfl rfl rfl (A4 rfl rfl rfl (A3 rfl (kn rfl) (kn rfl) (AA (by first | omega | (dsimp only;omega)))) (A9 rfl rfl rfl rfl rfl .nil))) ?_
  try refine A2 ?_
  refine AS ⟨j+1,by omega,by have:=of_decide_eq_true h;omega⟩ (by dsimp only;have:=of_decide_eq_true h;omega) (fun K=>AO ⟨s_t,s_t,s_t,s_t,s_t,s_t,trivial⟩ trivial ⟨rfl,trivial⟩)
 obtain rfl:j=(hd a b):=by have:=of_decide_eq_false h;omega
 rw[<- ho]
 clear hj1 hj2 hout hsn h ho
 try refine A2 ?_
 rw[List.nil_append,Nat.sub_zero]
 refine A0 (A6 rfl rfl rfl rfl rfl (A9 rfl rfl rfl rfl rfl .nil)) ?_
 try refine A2 ?_
 refine BA (ι:={ j:Nat // (hd a b)<=j/\j<=(a.length-tlN a b) })
  (fun j=>[(0,.part (.one (zsD a))),(1,.part (.one (zsD b))),(5,zI (hd a b:Int)),(6,zI (tlN a b:Int)),(7,.own 1000),(9,zI (j.1:Int))])
  (fun _=>[]) (fun j=>[(1000,⟨3,1,(List.replicate (hd a b) (1:Int)++List.replicate (j.1-(hd a b)) 2).length,(List.replicate (hd a b) (1:Int)++List.replicate (j.1-(hd a b)) 2).flatMap zD1,false⟩)]) (fun j=>(a.length-tlN a b)-j.1) ⟨(hd a b),by omega,by omega⟩
  (fun K=>AO ⟨s_t,s_t,s_t,s_t,s_t,s_t,trivial⟩ trivial ⟨by dsimp only;rw[Nat.sub_self,List.replicate_zero,List.append_nil];rfl,trivial⟩) ?_
 rintro⟨j,hj1,hj2⟩
 dsimp only at hj1 hj2 ⊢
 have hout:(List.replicate (hd a b) (1:Int)++List.replicate (j-(hd a b)) 2).length<=3000000:=by simp only[List.length_append,List.length_replicate,List.length_nil];omega
 have hsn:=EA (pre:=List.replicate (hd a b) (1:Int)) (k:=2) hj1
 generalize ho:List.replicate (hd a b) (1:Int)++List.replicate (j-(hd a b)) 2=out at hout hsn ⊢
 try refine A2 ?_
 refine A0 (A6 rfl rfl rfl rfl rfl (A6 rfl rfl rfl rfl rfl (A4 rfl rfl rfl (AJ rfl (kn rfl) sle_22) (A6 rfl rfl rfl rfl rfl (A4 rfl rfl rfl (A3 rfl (kn rfl) (kn rfl) (AB (by first | omega | (dsimp only;omega)))) (A4 rfl rfl rfl (A3 rfl (kn rfl) (kn rfl) BF) .nil)))))) ?_
 try refine A2 ?_
 refine AE rfl (fun h=>?_) (fun h=>?_)
 ·try refine A2 ?_
  refine AR ?_
  refine AL ?_
  refine AM (AH (ds:=[_]) [(0,_)] rfl ⟨rfl,(kn rfl),trivial⟩ rfl sl_22 sz_3 zr_3 (fun w D=>.cons (.cell _) (.nil _ _)) rfl rfl rfl rfl rfl) ?_
  refine B7 rfl rfl rfl rfl (kn rfl) rfl (kn rfl) sl_22 ap_22 rfl rfl (by omega) (by omega) ?_
  refine C2 (BU out 2) (CS out 2) ?_
  refine B9 ?_
  refine AD ?_
  try refine A2 ?_
  rw[hsn]
  refine A0 (A6 rfl rfl rfl rfl rfl (A4 rfl rfl rfl (A3 rfl (kn rfl) (kn rfl) (AA (by first | omega | (dsimp only;omega)))) (A9 rfl rfl rfl rfl rfl .nil))) ?_
  try refine A2 ?_
  refine AS ⟨j+1,by omega,by have:=of_decide_eq_true h;omega⟩ (by dsimp only;have:=of_decide_eq_true h;omega) (fun K=>AO ⟨s_t,s_t,s_t,s_t,s_t,s_t,trivial⟩ trivial ⟨rfl,trivial⟩)
 obtain rfl:j=(a.length-tlN a b):=by have:=of_decide_eq_false h;omega
 rw[<- ho]
 clear hj1 hj2 hout hsn h ho
 try refine A2 ?_
 refine A0 (A6 rfl rfl rfl rfl rfl (A9 rfl rfl rfl rfl rfl .nil)) ?_
 try refine A2 ?_
 refine BA (ι:={ j:Nat // (hd a b)<=j/\j<=(b.length-tlN a b) })
  (fun j=>[(0,.part (.one (zsD a))),(1,.part (.one (zsD b))),(5,zI (hd a b:Int)),(6,zI (tlN a b:Int)),(7,.own 1000),(10,zI (j.1:Int))])
  (fun _=>[]) (fun j=>[(1000,⟨3,1,((List.replicate (hd a b) (1:Int)++List.replicate (a.length-tlN a b-hd a b) 2)++List.replicate (j.1-(hd a b)) 3).length,((List.replicate (hd a b) (1:Int)++List.replicate (a.length-tlN a b-hd a b) 2)++List.replicate (j.1-(hd a b)) 3).flatMap zD1,false⟩)]) (fun j=>(b.length-tlN a b)-j.1) ⟨(hd a b),by omega,by omega⟩
  (fun K=>AO ⟨s_t,s_t,s_t,s_t,s_t,s_t,trivial⟩ trivial ⟨by dsimp only;rw[Nat.sub_self,List.replicate_zero,List.append_nil];rfl,trivial⟩) ?_
 rintro⟨j,hj1,hj2⟩
 dsimp only at hj1 hj2 ⊢
 have hout:((List.replicate (hd a b) (1:Int)++List.replicate (a.length-tlN a b-hd a b) 2)++List.replicate (j-(hd a b)) 3).length<=3000000:=by simp only[List.length_append,List.length_replicate,List.length_nil];omega
 have hsn:=EA (pre:=(List.replicate (hd a b) (1:Int)++List.replicate (a.length-tlN a b-hd a b) 2)) (k:=3) hj1
 generalize ho:(List.replicate (hd a b) (1:Int)++List.replicate (a.length-tlN a b-hd a b) 2)++List.replicate (j-(hd a b)) 3=out at hout hsn ⊢
 try refine A2 ?_
 refine A0 (A6 rfl rfl rfl rfl rfl (A6 rfl rfl rfl rfl rfl (A4 rfl rfl rfl (AJ rfl (kn rfl) sle_22) (A6 rfl rfl rfl rfl rfl (A4 rfl rfl rfl (A3 rfl (kn rfl) (kn rfl) (AB (by first | omega | (dsimp only;omega)))) (A4 rfl rfl rfl (A3 rfl (kn rfl) (kn rfl) BF) .nil)))))) ?_
 try refine A2 ?_
 refine AE rfl (fun h=>?_) (fun h=>?_)
 ·try refine A2 ?_
  refine AR ?_
  refine AL ?_
  refine AM (AH (ds:=[_]) [(0,_)] rfl ⟨rfl,(kn rfl),trivial⟩ rfl sl_22 sz_3 zr_3 (fun w D=>.cons (.cell _) (.nil _ _)) rfl rfl rfl rfl rfl) ?_
  refine B7 rfl rfl rfl rfl (kn rfl) rfl (kn rfl) sl_22 ap_22 rfl rfl (by omega) (by omega) ?_
  refine C2 (BU out 3) (CS out 3) ?_
  refine B9 ?_
  refine AD ?_
  try refine A2 ?_
  rw[hsn]
  refine A0 (A6 rfl rfl rfl rfl rfl (A4 rfl rfl rfl (A3 rfl (kn rfl) (kn rfl) (AA (by first | omega | (dsimp only;omega)))) (A9 rfl rfl rfl rfl rfl .nil))) ?_
  try refine A2 ?_
  refine AS ⟨j+1,by omega,by have:=of_decide_eq_true h;omega⟩ (by dsimp only;have:=of_decide_eq_true h;omega) (fun K=>AO ⟨s_t,s_t,s_t,s_t,s_t,s_t,trivial⟩ trivial ⟨rfl,trivial⟩)
 obtain rfl:j=(b.length-tlN a b):=by have:=of_decide_eq_false h;omega
 rw[<- ho]
 clear hj1 hj2 hout hsn h ho
 try refine A2 ?_
 refine A0 (A9 rfl rfl rfl rfl rfl .nil) ?_
 try refine A2 ?_
 refine BA (ι:={ j:Nat // 0<=j/\j<=(tlN a b) })
  (fun j=>[(0,.part (.one (zsD a))),(1,.part (.one (zsD b))),(5,zI (hd a b:Int)),(6,zI (tlN a b:Int)),(7,.own 1000),(11,zI (j.1:Int))])
  (fun _=>[]) (fun j=>[(1000,⟨3,1,((List.replicate (hd a b) (1:Int)++List.replicate (a.length-tlN a b-hd a b) 2++List.replicate (b.length-tlN a b-hd a b) 3)++List.replicate (j.1-0) 1).length,((List.replicate (hd a b) (1:Int)++List.replicate (a.length-tlN a b-hd a b) 2++List.replicate (b.length-tlN a b-hd a b) 3)++List.replicate (j.1-0) 1).flatMap zD1,false⟩)]) (fun j=>(tlN a b)-j.1) ⟨0,by omega,by omega⟩
  (fun K=>AO ⟨s_t,s_t,s_t,s_t,s_t,s_t,trivial⟩ trivial ⟨by dsimp only;rw[Nat.sub_self,List.replicate_zero,List.append_nil];rfl,trivial⟩) ?_
 rintro⟨j,hj1,hj2⟩
 dsimp only at hj1 hj2 ⊢
 have hout:((List.replicate (hd a b) (1:Int)++List.replicate (a.length-tlN a b-hd a b) 2++List.replicate (b.length-tlN a b-hd a b) 3)++List.replicate (j-0) 1).length<=3000000:=by simp only[List.length_append,List.length_replicate,List.length_nil];omega
 have hsn:=EA (pre:=(List.replicate (hd a b) (1:Int)++List.replicate (a.length-tlN a b-hd a b) 2++List.replicate (b.length-tlN a b-hd a b) 3)) (k:=1) hj1
 generalize ho:(List.replicate (hd a b) (1:Int)++List.replicate (a.length-tlN a b-hd a b) 2++List.replicate (b.length-tlN a b-hd a b) 3)++List.replicate (j-0) 1=out at hout hsn ⊢
 try refine A2 ?_
 refine A0 (A6 rfl rfl rfl rfl rfl (A6 rfl rfl rfl rfl rfl (A4 rfl rfl rfl (A3 rfl (kn rfl) (kn rfl) BF) .nil))) ?_
 try refine A2 ?_
 refine AE rfl (fun h=>?_) (fun h=>?_)
 ·try refine A2 ?_
  refine AR ?_
  refine AL ?_
  refine AM (AH (ds:=[_]) [(0,_)] rfl ⟨rfl,(kn rfl),trivial⟩ rfl sl_22 sz_3 zr_3 (fun w D=>.cons (.cell _) (.nil _ _)) rfl rfl rfl rfl rfl) ?_
  refine B7 rfl rfl rfl rfl (kn rfl) rfl (kn rfl) sl_22 ap_22 rfl rfl (by omega) (by omega) ?_
  refine C2 (BU out 1) (CS out 1) ?_
  refine B9 ?_
  refine AD ?_
  try refine A2 ?_
  rw[hsn]
  refine A0 (A6 rfl rfl rfl rfl rfl (A4 rfl rfl rfl (A3 rfl (kn rfl) (kn rfl) (AA (by first | omega | (dsimp only;omega)))) (A9 rfl rfl rfl rfl rfl .nil))) ?_
  try refine A2 ?_
  refine AS ⟨j+1,by omega,by have:=of_decide_eq_true h;omega⟩ (by dsimp only;have:=of_decide_eq_true h;omega) (fun K=>AO ⟨s_t,s_t,s_t,s_t,s_t,s_t,trivial⟩ trivial ⟨rfl,trivial⟩)
 obtain rfl:j=(tlN a b):=by have:=of_decide_eq_false h;omega
 rw[<- ho]
 clear hj1 hj2 hout hsn h ho
 try refine A2 ?_
 refine AU 7 1000 rfl rfl rfl ?_
 refine A0 (A6 rfl rfl rfl rfl rfl (A9 rfl rfl rfl rfl rfl .nil)) ?_
 try refine A2 ?_
 exact AI rfl rfl (.tmp (kn rfl) (.nil)) (Imp.refl _) rfl
theorem JF(a b:List Int)(ha:a.length<=1000000)(hb:b.length<=1000000)(hn:400<edL a b):EF Try.prog [] 8 [.one (zsD a),.one (zsD b)] (.part (.one (zsD (apL a b)))):=by
 have ht:=G0 a b ha hb
 have hp:=K1 a b ha hb
 refine AT 100 Try.func8 rfl rfl rfl fun w D=>?_
 try refine A2 ?_
 refine A0 (A9 rfl rfl rfl rfl rfl .nil) ?_
 try refine A2 ?_
 refine A0 (A6 rfl rfl rfl rfl rfl (A6 rfl rfl rfl rfl rfl (A4 rfl rfl rfl (AW rfl (by kernel_rfl) (ht) ⟨(kn rfl),⟨(kn rfl),trivial⟩⟩) (A9 rfl rfl rfl rfl rfl .nil)))) ?_
 try refine A2 ?_
 refine AR ?_
 refine H2 1000 rfl rfl rfl rfl sl_22 ap_22 rfl rfl ?_
 refine B9 ?_
 refine AD ?_
 try refine A2 ?_
 refine A0 (A9 rfl rfl rfl rfl rfl (A9 rfl rfl rfl rfl rfl .nil)) ?_
 try refine A2 ?_
 refine A0 (A6 rfl rfl rfl rfl rfl (A4 rfl rfl rfl (AF rfl (kn rfl) (kn rfl) (by omega) (DC a b (Nat.zero_le _)) CA sle_25 esz_25 rfl) (A4 rfl rfl rfl (A7 rfl (kn rfl) one_22) (A4 rfl rfl rfl (AF rfl (kn rfl) (kn rfl) (by omega) (CN a b 0 (Nat.zero_le _)) AG sle_22 esz_22 rfl) (A4 rfl rfl rfl (A7 rfl (kn rfl) one_3) (A4 rfl rfl rfl (A3 rfl (kn rfl) (kn rfl) DG) .nil)))))) ?_
 try refine A2 ?_
 refine AE rfl (fun _=>?_) (fun h=>absurd (show(400:Int)<(edL a b:Int) by omega) (of_decide_eq_false h))
 try refine A2 ?_
 refine A0 (A6 rfl rfl rfl rfl rfl (A6 rfl rfl rfl rfl rfl (A4 rfl rfl rfl (AW rfl (by kernel_rfl) (hp) ⟨(kn rfl),⟨(kn rfl),trivial⟩⟩) (A9 rfl rfl rfl rfl rfl .nil)))) ?_
 try refine A2 ?_
 exact AI rfl rfl (.tmp (kn rfl) (.nil)) (Imp.refl _) rfl
theorem KO(a b:List Int)(ha:a.length<=1000000)(hb:b.length<=1000000):EF Try.prog [] 8 [.one (zsD a),.one (zsD b)] (.part (.one (zsD (B3 a b)))):=by
 unfold B3
 by_cases h:400<edL a b
 ·rw[if_pos h]
  exact JF a b ha hb h
 ·rw[if_neg h]
  exact I2 a b ha hb (by omega)
def rnD(p:Rn):List Dat:=[zC p.1,zC p.2]
theorem F3(p:Rn):(rnD p).length=2:=rfl
abbrev GT(l:List Rn):Dat:=.row 2 l.length (l.flatMap rnD)
theorem D5(l:List Rn):(l.flatMap rnD).length=l.length*2:=FH F3 l
theorem K4(m:List Rn)(k c:Int):((m++[(k,c)]).flatMap rnD)[m.length*2+1]?=some (zC c)/\((m++[(k,c)]).flatMap rnD)[m.length*2]?=some (zC k):=by
 rw[List.flatMap_append]
 constructor
 ·rw[List.getElem?_append_right (by rw[D5];omega),D5,show m.length*2+1-m.length*2=1 by omega]
  rfl
 ·rw[List.getElem?_append_right (by rw[D5];omega),D5,Nat.sub_self]
  rfl
theorem KW(m:List Rn)(k c d:Int):((m++[(k,c)]).flatMap rnD).set (m.length*2+1) (zC d)=(m++[(k,d)]).flatMap rnD:=by
 rw[List.flatMap_append,List.flatMap_append,List.set_append_right _ _ (by rw[D5];omega),D5,show m.length*2+1-m.length*2=1 by omega]
 rfl
theorem GQ(l:List Rn)(k c:Int):l.flatMap rnD++[zC k,zC c]=(l++[(k,c)]).flatMap rnD:=by simp[rnD]
theorem J9{l:List Int}{i:Nat}{k:Int}(h:l[i]?=some k):B4 (l.take (i+1))=BK (B4 (l.take i)) k 1:=by
 rw[List.take_add_one,h]
 exact BQ _ _
set_option maxHeartbeats 2000000 in
theorem MF(l:List Int)(hl:l.length<=3000000):EF Try.prog [] 12 [.one (zsD l)] (.part (.one (GT (B4 l)))):=by
 refine AT 42 Try.func12 rfl rfl rfl fun w D=>?_
 try refine A2 ?_
 refine A0 (A9 rfl rfl rfl rfl rfl .nil) ?_
 try refine A2 ?_
 refine AR ?_
 refine H2 1000 rfl rfl rfl rfl sl_30 ap_30 rfl rfl ?_
 refine B9 ?_
 refine AD ?_
 try refine A2 ?_
 refine A0 (A6 rfl rfl rfl rfl rfl (A4 rfl rfl rfl (AJ rfl (kn rfl) sle_22) (A6 rfl rfl rfl rfl rfl .nil))) ?_
 try refine A2 ?_
 refine BA (ι:={ i:Nat // i<=l.length })
  (fun i=>[(0,.part (.one (zsD l))),(3,.own 1000),(7,.part (.one (zsD l))),(8,zI (l.length:Int)),(9,zI (i.1:Int))])
  (fun _=>[]) (fun i=>[(1000,⟨39,2,(B4 (l.take i.1)).length,(B4 (l.take i.1)).flatMap rnD,false⟩)]) (fun i=>l.length-i.1) ⟨0,Nat.zero_le _⟩
  (fun K=>AO ⟨s_t,s_t,s_t,s_t,s_t,trivial⟩ trivial ⟨rfl,trivial⟩) ?_
 rintro⟨i,hi⟩
 dsimp only at hi ⊢
 try refine A2 ?_
 refine A0 (A4 rfl rfl rfl (A3 rfl (kn rfl) (kn rfl) BF) .nil) ?_
 try refine A2 ?_
 refine AE rfl (fun h=>?_) (fun h=>?_)
 ·have hlt:=ltd h
  obtain⟨k,hk⟩:∃ k,l[i]?=some k:=⟨_,List.getElem?_eq_getElem hlt⟩
  obtain⟨p,hp⟩:∃ p,0<i->l[((i:Int)-1).toNat]?=some p:=⟨l.getD (i-1) 0,fun h0=>by rw[show((i:Int)-1).toNat=i-1 by omega,List.getD_eq_getElem?_getD,List.getElem?_eq_getElem (by omega)];rfl⟩
  have hnext:=J9 hk
  have hle:=E7 (l.take i)
  rw[List.length_take]at hle
  try refine A2 ?_
  refine A0 (A6 rfl rfl rfl rfl rfl (A4 rfl rfl rfl (AF rfl (kn rfl) (kn rfl) (by omega) hk AG sle_22 esz_22 rfl) (A4 rfl rfl rfl (A7 rfl (kn rfl) one_3) (A9 rfl rfl rfl rfl rfl (A9 rfl rfl rfl rfl rfl .nil))))) ?_
  try refine A2 ?_
  refine A0 (A6 rfl rfl rfl rfl rfl (A4 rfl rfl rfl (A3 rfl (kn rfl) (kn rfl) DG) (A6 rfl rfl rfl rfl rfl (Walk.gd _ rfl rfl rfl (fun h=>A5 rfl (kn rfl)) (Walk.gd _ rfl rfl rfl (fun h=>A5 rfl (kn rfl)) (Walk.gd _ rfl rfl rfl (fun h=>A3 rfl (A1 rfl h) (kn rfl) (AB (by first | omega | (dsimp only;omega)))) (Walk.gd _ rfl rfl rfl (fun h=>AF rfl (A1 rfl h) (A1 rfl h) (by have:=of_decide_eq_true h;omega) (hp (by have:=of_decide_eq_true h;omega)) AG sle_22 esz_22 rfl) (Walk.gd _ rfl rfl rfl (fun h=>A7 rfl (A1 rfl h) one_3) (Walk.gd _ rfl rfl rfl (fun h=>A5 rfl (kn rfl)) (Walk.gd _ rfl rfl rfl (fun h=>A3 rfl (A1 rfl h) (A1 rfl h) B2) (A4 rfl rfl rfl (BC rfl (kn rfl) (fun hb=>A1 rfl hb)) .nil))))))))))) ?_
  try refine A2 ?_
  refine AE rfl (fun h1=>?_) (fun h1=>?_)
  ·have h0:0<i:=by have:=of_decide_eq_true (gl h1);omega
   obtain rfl:=of_decide_eq_true (gr h1)
   obtain⟨j,rfl⟩:∃ j,i=j+1:=⟨i-1,by omega⟩
   have hp':l[j]?=some p:=by
    have:=hp h0
    rwa [show(((j+1:Nat):Int)-1).toNat=j by omega]at this
   obtain⟨m,c,hm⟩:=G7 (l.take j) p
   rw[show l.take j++[p]=l.take (j+1) by rw[List.take_add_one,hp'];rfl]at hm
   have hc:c<=(l.length:Int):=by
    have:=(DQ (l:=l.take (j+1)) (p:=(p,c)) (by rw[hm];simp)).2.1
    rw[List.length_take]at this
    simp only at this
    omega
   have hc1:1<=c:=(DQ (l:=l.take (j+1)) (p:=(p,c)) (by rw[hm];simp)).1
   rw[hm,BS (by decide)]at hnext
   rw[hm]at hle ⊢
   have hml:(m++[(p,c)]).length=m.length+1:=by simp
   have hg:=(K4 m p c).1
   have hst:=KW m p c (c+1)
   have hfl:=D5 (m++[(p,c)])
   rw[hml]at hle hfl
   refine C2 hml rfl ?_
   try refine A2 ?_
   refine AR ?_
   refine AL ?_
   refine AL ?_
   refine AM (C6 rfl (kn rfl) rfl sle_30) ?_
   refine AM (A3 rfl (kn rfl) (kn rfl) (AB (by first | omega | (dsimp only;omega)))) ?_
   rw[show((m.length+1:Nat):Int)-1=(m.length:Int) by omega]
   refine AM (AC (z:=(m.length:Int)) rfl (kn rfl) rfl (kn rfl) ⟨by omega,by omega⟩ sle_30 esz_30) ?_
   refine AM (BE rfl (kn rfl) off_39_1) ?_
   refine AM (AP rfl (kn rfl) rfl (by simpa using hg) one_3) ?_
   refine AM (A3 rfl (kn rfl) (kn rfl) (AA (by first | omega | (dsimp only;omega)))) ?_
   refine AM (AC (z:=(m.length:Int)) rfl (kn rfl) rfl (kn rfl) ⟨by omega,by omega⟩ sle_30 esz_30) ?_
   refine AM (BE rfl (kn rfl) off_39_1) ?_
   refine AY (ds':=(m++[(p,c+1)]).flatMap rnD) rfl rfl rfl (kn rfl) rfl (kn rfl) rfl (by rw[hfl];omega) sz_3 (by simpa using hst) ?_ rfl
   refine AD ?_
   try refine A2 ?_
   refine A0 (A4 rfl rfl rfl (A3 rfl (kn rfl) (kn rfl) (AA (by first | omega | (dsimp only;omega)))) (A6 rfl rfl rfl rfl rfl .nil)) ?_
   try refine A2 ?_
   refine AS ⟨j+1+1,by omega⟩ (by dsimp only;omega) (fun K=>AO ⟨s_t,s_t,s_t,s_t,s_t,trivial⟩ trivial ⟨by dsimp only;rw[hnext];simp;rfl,trivial⟩)
  have hstep:BK (B4 (l.take i)) k 1=B4 (l.take i)++[(k,1)]:=by
   rcases Nat.eq_zero_or_pos i with h0 | h0
   ·subst h0
    exact BZ (by decide)
   ·obtain⟨j,rfl⟩:∃ j,i=j+1:=⟨i-1,by omega⟩
    have hp':l[j]?=some p:=by
     have:=hp h0
     rwa [show(((j+1:Nat):Int)-1).toNat=j by omega]at this
    obtain⟨m,c,hm⟩:=G7 (l.take j) p
    rw[show l.take j++[p]=l.take (j+1) by rw[List.take_add_one,hp'];rfl]at hm
    rw[hm]
    refine CW (by decide) fun e=>?_
    rw[decide_eq_true e,decide_eq_true (show(0:Int)<((j+1:Nat):Int) by omega)]at h1
    cases h1
  rw[hstep]at hnext
  generalize hR:B4 (l.take i)=r at hnext hle ⊢
  try refine A2 ?_
  refine AR ?_
  refine AL ?_
  refine AL ?_
  refine AM (CB (ds:=[_,_]) [(0,_),(1,_)] rfl ⟨rfl,(kn rfl),⟨rfl,(kn rfl),trivial⟩⟩ rfl pl_39 zr_39 (fun w D=>.cons (.cell _) (.cons (.cell _) (.nil _ _))) rfl) ?_
  refine AM (AH (ds:=[_,_]) [(0,_)] rfl ⟨rfl,(kn rfl),trivial⟩ rfl sl_30 sz_39 zr_39 (fun w D=>.cons (.cell _) (.cons (.cell _) (.nil _ _))) rfl rfl rfl rfl rfl) ?_
  refine B7 rfl rfl rfl rfl (kn rfl) rfl (kn rfl) sl_30 ap_30 rfl rfl (by omega) (by omega) ?_
  refine C2 (BU r (k,1)) (GQ r k 1) ?_
  refine B9 ?_
  refine AD ?_
  try refine A2 ?_
  rw[<- hnext]
  refine A0 (A4 rfl rfl rfl (A3 rfl (kn rfl) (kn rfl) (AA (by first | omega | (dsimp only;omega)))) (A6 rfl rfl rfl rfl rfl .nil)) ?_
  try refine A2 ?_
  refine AS ⟨i+1,by omega⟩ (by dsimp only;omega) (fun K=>AO ⟨s_t,s_t,s_t,s_t,s_t,trivial⟩ trivial ⟨rfl,trivial⟩)
 rw[List.take_of_length_le (ltf h)]
 try refine A2 ?_
 refine AU 3 1000 rfl rfl rfl ?_
 refine A0 (A6 rfl rfl rfl rfl rfl (A9 rfl rfl rfl rfl rfl .nil)) ?_
 try refine A2 ?_
 exact AI rfl rfl (.tmp (kn rfl) (.nil)) (Imp.refl _) rfl
end Go.Proofs.Ytjpghcmlglhmbaa
