/- Part 12. Conditions: as each theorem says. -/
import Derived.Test.YtjpghcmlglhmbaaMF11
import Derived.Test.YtjpghcmlglhmbaaProg
set_option maxRecDepth 100000
namespace Go.Proofs.Ytjpghcmlglhmbaa
open Go.RowKit
theorem JX{k n h:Nat}(e:decide ((k:Int)<(n:Int)-(h:Int))=true):0<=(n:Int)-1-(k:Int):=by have:=of_decide_eq_true e;omega
theorem F1{k n h:Nat}(e:decide ((k:Int)<(n:Int)-(h:Int))=true):k<n-h:=by have:=of_decide_eq_true e;omega
theorem KG(l:List Int)(h k:Nat):∃ p,k<l.length-h->l[((l.length:Int)-1-(k:Int)).toNat]?=some p/\l[l.length-1-k]?=some p:=⟨l.getD (l.length-1-k) 0,fun hk=>by
 have e:((l.length:Int)-1-(k:Int)).toNat=l.length-1-k:=by omega
 rw[e,List.getD_eq_getElem?_getD,List.getElem?_eq_getElem (by omega)]
 exact⟨rfl,rfl⟩⟩
theorem DT{pre:List Int}{k:Int}{i j:Nat}(h:i<=j):pre++List.replicate (j-i) k++[k]=pre++List.replicate (j+1-i) k:=by
 rw[List.append_assoc,show j+1-i=(j-i)+1 by omega,List.replicate_succ']
set_option maxHeartbeats 2000000 in
theorem K5(a b:List Int)(ha:a.length<=1000000)(hb:b.length<=1000000):EF Try.prog [] 21 [.one (zsD a),.one (zsD b)] (.part (.one (zsD (apL a b)))):=by
 have hle:=H2 a b
 have htl:=HQ a b
 refine AU 112 Try.func21 rfl rfl rfl fun w D=>?_
 try refine A1 ?_
 refine A0 (A9 rfl rfl rfl rfl rfl .nil) ?_
 try refine A1 ?_
 refine A0 (A9 rfl rfl rfl rfl rfl .nil) ?_
 try refine A1 ?_
 refine B8 (ι:={ k:Nat // k<=hd a b })
  (fun k=>[(0,.part (.one (zsD a))),(1,.part (.one (zsD b))),(5,zI (k.1:Int))])
  (fun _=>[]) (fun _=>[]) (fun k=>hd a b-k.1) ⟨0,Nat.zero_le _⟩
  (fun K=>AN ⟨s_t,s_t,s_t,trivial⟩ trivial trivial) ?_
 rintro⟨k,hk⟩
 dsimp only at hk ⊢
 obtain⟨p,hp⟩:=ES a k
 obtain⟨q,hq⟩:=ES b k
 try refine A1 ?_
 refine C8 BR (by kernel_rfl) (A5 rfl rfl rfl rfl rfl (A5 rfl rfl rfl rfl rfl (A4 rfl rfl rfl (AP rfl (kn rfl) sle_22) (A4 rfl rfl rfl (A3 rfl (kn rfl) (kn rfl) BF) (A5 rfl rfl rfl rfl rfl (Walk.gd _ rfl rfl rfl (fun h=>A6 rfl (kn rfl)) (Walk.gd _ rfl rfl rfl (fun h=>A6 rfl (kn rfl)) (Walk.gd _ rfl rfl rfl (fun h=>AP rfl (A2 rfl h) sle_22) (Walk.gd _ rfl rfl rfl (fun h=>A3 rfl (A2 rfl h) (A2 rfl h) BF) (A4 rfl rfl rfl (BE rfl (kn rfl) (fun hb=>A2 rfl hb)) (A5 rfl rfl rfl rfl rfl (Walk.gd _ rfl rfl rfl (fun h=>A6 rfl (kn rfl)) (Walk.gd _ rfl rfl rfl (fun h=>A6 rfl (kn rfl)) (Walk.gd _ rfl rfl rfl (fun h=>AG rfl (A2 rfl h) (A2 rfl h) (by omega) (hp (ltd (gl h))) AH sle_22 esz_22 rfl) (Walk.gd _ rfl rfl rfl (fun h=>A7 rfl (A2 rfl h) one_3) (Walk.gd _ rfl rfl rfl (fun h=>A6 rfl (kn rfl)) (Walk.gd _ rfl rfl rfl (fun h=>A6 rfl (kn rfl)) (Walk.gd _ rfl rfl rfl (fun h=>AG rfl (A2 rfl h) (A2 rfl h) (by omega) (hq (ltd (gr h))) AH sle_22 esz_22 rfl) (Walk.gd _ rfl rfl rfl (fun h=>A7 rfl (A2 rfl h) one_3) (Walk.gd _ rfl rfl rfl (fun h=>A3 rfl (A2 rfl h) (A2 rfl h) B9) (A4 rfl rfl rfl (BE rfl (kn rfl) (fun hb=>A2 rfl hb)) .nil))))))))))))))))))))) ?_
 try refine A1 ?_
 refine AC rfl (fun h=>?_) (fun h=>?_)
 ·have hx:=ltd (gl (gl h))
  have hy:=ltd (gr (gl h))
  have hlt:=(GT hk (hp hx) (hq hy)).1 (of_decide_eq_true (gr h))
  try refine A1 ?_
  refine A0 (A5 rfl rfl rfl rfl rfl (A4 rfl rfl rfl (A3 rfl (kn rfl) (kn rfl) (AA (by first | omega | (dsimp only;omega)))) (A9 rfl rfl rfl rfl rfl .nil))) ?_
  try refine A1 ?_
  refine AR ⟨k+1,hlt⟩ (by dsimp only;omega) (fun K=>AN ⟨s_t,s_t,s_t,trivial⟩ trivial trivial)
 obtain rfl:k=hd a b:=by
  rcases Nat.lt_or_ge k (hd a b)with h1 | h1
  ·have hx:k<a.length:=by omega
   have hy:k<b.length:=by omega
   have e:=(GT hk (hp hx) (hq hy)).2 h1
   rw[FY,FY,decide_eq_true hx,decide_eq_true hy,decide_eq_true e]at h
   cases h
  ·omega
 clear h hp hq hk
 try refine A1 ?_
 refine A0 (A9 rfl rfl rfl rfl rfl .nil) ?_
 try refine A1 ?_
 refine B8 (ι:={ k:Nat // k<=tlN a b })
  (fun k=>[(0,.part (.one (zsD a))),(1,.part (.one (zsD b))),(5,zI (hd a b:Int)),(6,zI (k.1:Int))])
  (fun _=>[]) (fun _=>[]) (fun k=>tlN a b-k.1) ⟨0,Nat.zero_le _⟩
  (fun K=>AN ⟨s_t,s_t,s_t,s_t,trivial⟩ trivial trivial) ?_
 rintro⟨k,hk⟩
 dsimp only at hk ⊢
 obtain⟨p,hp⟩:=KG a (hd a b) k
 obtain⟨q,hq⟩:=KG b (hd a b) k
 try refine A1 ?_
 refine C8 BR (by kernel_rfl) (A5 rfl rfl rfl rfl rfl (A5 rfl rfl rfl rfl rfl (A4 rfl rfl rfl (AP rfl (kn rfl) sle_22) (A5 rfl rfl rfl rfl rfl (A4 rfl rfl rfl (A3 rfl (kn rfl) (kn rfl) (AE (by first | omega | (dsimp only;omega)))) (A4 rfl rfl rfl (A3 rfl (kn rfl) (kn rfl) BF) (A5 rfl rfl rfl rfl rfl (Walk.gd _ rfl rfl rfl (fun h=>A6 rfl (kn rfl)) (Walk.gd _ rfl rfl rfl (fun h=>A6 rfl (kn rfl)) (Walk.gd _ rfl rfl rfl (fun h=>AP rfl (A2 rfl h) sle_22) (Walk.gd _ rfl rfl rfl (fun h=>A6 rfl (kn rfl)) (Walk.gd _ rfl rfl rfl (fun h=>A3 rfl (A2 rfl h) (A2 rfl h) (AE (by first | omega | (dsimp only;omega)))) (Walk.gd _ rfl rfl rfl (fun h=>A3 rfl (A2 rfl h) (A2 rfl h) BF) (A4 rfl rfl rfl (BE rfl (kn rfl) (fun hb=>A2 rfl hb)) (A5 rfl rfl rfl rfl rfl (Walk.gd _ rfl rfl rfl (fun h=>A6 rfl (kn rfl)) (Walk.gd _ rfl rfl rfl (fun h=>A6 rfl (kn rfl)) (Walk.gd _ rfl rfl rfl (fun h=>AP rfl (A2 rfl h) sle_22) (Walk.gd _ rfl rfl rfl (fun h=>A3 rfl (A2 rfl h) (kn rfl) (AE (by first | omega | (dsimp only;omega)))) (Walk.gd _ rfl rfl rfl (fun h=>A6 rfl (kn rfl)) (Walk.gd _ rfl rfl rfl (fun h=>A3 rfl (A2 rfl h) (A2 rfl h) (AE (by first | omega | (dsimp only;omega)))) (Walk.gd _ rfl rfl rfl (fun h=>AG rfl (A2 rfl h) (A2 rfl h) (JX (gl h)) (hp (F1 (gl h))).1 AH sle_22 esz_22 rfl) (Walk.gd _ rfl rfl rfl (fun h=>A7 rfl (A2 rfl h) one_3) (Walk.gd _ rfl rfl rfl (fun h=>A6 rfl (kn rfl)) (Walk.gd _ rfl rfl rfl (fun h=>A6 rfl (kn rfl)) (Walk.gd _ rfl rfl rfl (fun h=>AP rfl (A2 rfl h) sle_22) (Walk.gd _ rfl rfl rfl (fun h=>A3 rfl (A2 rfl h) (kn rfl) (AE (by first | omega | (dsimp only;omega)))) (Walk.gd _ rfl rfl rfl (fun h=>A6 rfl (kn rfl)) (Walk.gd _ rfl rfl rfl (fun h=>A3 rfl (A2 rfl h) (A2 rfl h) (AE (by first | omega | (dsimp only;omega)))) (Walk.gd _ rfl rfl rfl (fun h=>AG rfl (A2 rfl h) (A2 rfl h) (JX (gr h)) (hq (F1 (gr h))).1 AH sle_22 esz_22 rfl) (Walk.gd _ rfl rfl rfl (fun h=>A7 rfl (A2 rfl h) one_3) (Walk.gd _ rfl rfl rfl (fun h=>A3 rfl (A2 rfl h) (A2 rfl h) B9) (A4 rfl rfl rfl (BE rfl (kn rfl) (fun hb=>A2 rfl hb)) .nil))))))))))))))))))))))))))))))))) ?_
 try refine A1 ?_
 refine AC rfl (fun h=>?_) (fun h=>?_)
 ·have hx:=F1 (gl (gl h))
  have hy:=F1 (gr (gl h))
  have hlt:=(L1 hk hx hy (hp hx).2 (hq hy).2).1 (of_decide_eq_true (gr h))
  try refine A1 ?_
  refine A0 (A5 rfl rfl rfl rfl rfl (A4 rfl rfl rfl (A3 rfl (kn rfl) (kn rfl) (AA (by first | omega | (dsimp only;omega)))) (A9 rfl rfl rfl rfl rfl .nil))) ?_
  try refine A1 ?_
  refine AR ⟨k+1,hlt⟩ (by dsimp only;omega) (fun K=>AN ⟨s_t,s_t,s_t,s_t,trivial⟩ trivial trivial)
 obtain rfl:k=tlN a b:=by
  rcases Nat.lt_or_ge k (tlN a b)with h1 | h1
  ·have hx:k<a.length-hd a b:=by omega
   have hy:k<b.length-hd a b:=by omega
   have e:=(L1 hk hx hy (hp hx).2 (hq hy).2).2 h1
   rw[decide_eq_true (show(k:Int)<(a.length:Int)-(hd a b:Int) by omega),decide_eq_true (show(k:Int)<(b.length:Int)-(hd a b:Int) by omega),decide_eq_true e]at h
   cases h
  ·omega
 clear h hp hq hk
 try refine A1 ?_
 refine AL ?_
 refine E9 1000 rfl rfl rfl rfl sl_22 ap_22 rfl rfl ?_
 refine B3 ?_
 refine AB ?_
 try refine A1 ?_
 refine A0 (A9 rfl rfl rfl rfl rfl .nil) ?_
 try refine A1 ?_
 refine B8 (ι:={ j:Nat // 0<=j/\j<=(hd a b) })
  (fun j=>[(0,.part (.one (zsD a))),(1,.part (.one (zsD b))),(5,zI (hd a b:Int)),(6,zI (tlN a b:Int)),(7,.own 1000),(8,zI (j.1:Int))])
  (fun _=>[]) (fun j=>[(1000,⟨3,1,(([]:List Int)++List.replicate (j.1-0) 1).length,(([]:List Int)++List.replicate (j.1-0) 1).flatMap zD1,false⟩)]) (fun j=>(hd a b)-j.1) ⟨0,by omega,by omega⟩
  (fun K=>AN ⟨s_t,s_t,s_t,s_t,s_t,s_t,trivial⟩ trivial ⟨by dsimp only;rw[Nat.sub_self,List.replicate_zero,List.append_nil];rfl,trivial⟩) ?_
 rintro⟨j,hj1,hj2⟩
 dsimp only at hj1 hj2 ⊢
 have hout:(([]:List Int)++List.replicate (j-0) 1).length<=3000000:=by simp only[List.length_append,List.length_replicate,List.length_nil];omega
 have hsn:=DT (pre:=([]:List Int)) (k:=1) hj1
 generalize ho:([]:List Int)++List.replicate (j-0) 1=out at hout hsn ⊢
 try refine A1 ?_
 refine A0 (A5 rfl rfl rfl rfl rfl (A5 rfl rfl rfl rfl rfl (A4 rfl rfl rfl (A3 rfl (kn rfl) (kn rfl) BF) .nil))) ?_
 try refine A1 ?_
 refine AC rfl (fun h=>?_) (fun h=>?_)
 ·try refine A1 ?_
  refine AL ?_
  refine AI ?_
  refine AM (AF (ds:=[_]) [(0,_)] rfl ⟨rfl,(kn rfl),trivial⟩ rfl sl_22 sz_3 zr_3 (fun w D=>.cons (.cell _) (.nil _ _)) rfl rfl rfl rfl rfl) ?_
  refine AY rfl rfl rfl rfl (kn rfl) rfl (kn rfl) sl_22 ap_22 rfl rfl (by omega) (by omega) ?_
  refine BO (BD out 1) (BV out 1) ?_
  refine B3 ?_
  refine AB ?_
  try refine A1 ?_
  rw[hsn]
  refine A0 (A5 rfl rfl rfl rfl rfl (A4 rfl rfl rfl (A3 rfl (kn rfl) (kn rfl) (AA (by first | omega | (dsimp only;omega)))) (A9 rfl rfl rfl rfl rfl .nil))) ?_
  try refine A1 ?_
  refine AR ⟨j+1,by omega,by have:=of_decide_eq_true h;omega⟩ (by dsimp only;have:=of_decide_eq_true h;omega) (fun K=>AN ⟨s_t,s_t,s_t,s_t,s_t,s_t,trivial⟩ trivial ⟨rfl,trivial⟩)
 obtain rfl:j=(hd a b):=by have:=of_decide_eq_false h;omega
 rw[<- ho]
 clear hj1 hj2 hout hsn h ho
 try refine A1 ?_
 rw[List.nil_append,Nat.sub_zero]
 refine A0 (A5 rfl rfl rfl rfl rfl (A9 rfl rfl rfl rfl rfl .nil)) ?_
 try refine A1 ?_
 refine B8 (ι:={ j:Nat // (hd a b)<=j/\j<=(a.length-tlN a b) })
  (fun j=>[(0,.part (.one (zsD a))),(1,.part (.one (zsD b))),(5,zI (hd a b:Int)),(6,zI (tlN a b:Int)),(7,.own 1000),(9,zI (j.1:Int))])
  (fun _=>[]) (fun j=>[(1000,⟨3,1,(List.replicate (hd a b) (1:Int)++List.replicate (j.1-(hd a b)) 2).length,(List.replicate (hd a b) (1:Int)++List.replicate (j.1-(hd a b)) 2).flatMap zD1,false⟩)]) (fun j=>(a.length-tlN a b)-j.1) ⟨(hd a b),by omega,by omega⟩
  (fun K=>AN ⟨s_t,s_t,s_t,s_t,s_t,s_t,trivial⟩ trivial ⟨by dsimp only;rw[Nat.sub_self,List.replicate_zero,List.append_nil];rfl,trivial⟩) ?_
 rintro⟨j,hj1,hj2⟩
 dsimp only at hj1 hj2 ⊢
 have hout:(List.replicate (hd a b) (1:Int)++List.replicate (j-(hd a b)) 2).length<=3000000:=by simp only[List.length_append,List.length_replicate,List.length_nil];omega
 have hsn:=DT (pre:=List.replicate (hd a b) (1:Int)) (k:=2) hj1
 generalize ho:List.replicate (hd a b) (1:Int)++List.replicate (j-(hd a b)) 2=out at hout hsn ⊢
 try refine A1 ?_
 refine A0 (A5 rfl rfl rfl rfl rfl (A5 rfl rfl rfl rfl rfl (A4 rfl rfl rfl (AP rfl (kn rfl) sle_22) (A5 rfl rfl rfl rfl rfl (A4 rfl rfl rfl (A3 rfl (kn rfl) (kn rfl) (AE (by first | omega | (dsimp only;omega)))) (A4 rfl rfl rfl (A3 rfl (kn rfl) (kn rfl) BF) .nil)))))) ?_
 try refine A1 ?_
 refine AC rfl (fun h=>?_) (fun h=>?_)
 ·try refine A1 ?_
  refine AL ?_
  refine AI ?_
  refine AM (AF (ds:=[_]) [(0,_)] rfl ⟨rfl,(kn rfl),trivial⟩ rfl sl_22 sz_3 zr_3 (fun w D=>.cons (.cell _) (.nil _ _)) rfl rfl rfl rfl rfl) ?_
  refine AY rfl rfl rfl rfl (kn rfl) rfl (kn rfl) sl_22 ap_22 rfl rfl (by omega) (by omega) ?_
  refine BO (BD out 2) (BV out 2) ?_
  refine B3 ?_
  refine AB ?_
  try refine A1 ?_
  rw[hsn]
  refine A0 (A5 rfl rfl rfl rfl rfl (A4 rfl rfl rfl (A3 rfl (kn rfl) (kn rfl) (AA (by first | omega | (dsimp only;omega)))) (A9 rfl rfl rfl rfl rfl .nil))) ?_
  try refine A1 ?_
  refine AR ⟨j+1,by omega,by have:=of_decide_eq_true h;omega⟩ (by dsimp only;have:=of_decide_eq_true h;omega) (fun K=>AN ⟨s_t,s_t,s_t,s_t,s_t,s_t,trivial⟩ trivial ⟨rfl,trivial⟩)
 obtain rfl:j=(a.length-tlN a b):=by have:=of_decide_eq_false h;omega
 rw[<- ho]
 clear hj1 hj2 hout hsn h ho
 try refine A1 ?_
 refine A0 (A5 rfl rfl rfl rfl rfl (A9 rfl rfl rfl rfl rfl .nil)) ?_
 try refine A1 ?_
 refine B8 (ι:={ j:Nat // (hd a b)<=j/\j<=(b.length-tlN a b) })
  (fun j=>[(0,.part (.one (zsD a))),(1,.part (.one (zsD b))),(5,zI (hd a b:Int)),(6,zI (tlN a b:Int)),(7,.own 1000),(10,zI (j.1:Int))])
  (fun _=>[]) (fun j=>[(1000,⟨3,1,((List.replicate (hd a b) (1:Int)++List.replicate (a.length-tlN a b-hd a b) 2)++List.replicate (j.1-(hd a b)) 3).length,((List.replicate (hd a b) (1:Int)++List.replicate (a.length-tlN a b-hd a b) 2)++List.replicate (j.1-(hd a b)) 3).flatMap zD1,false⟩)]) (fun j=>(b.length-tlN a b)-j.1) ⟨(hd a b),by omega,by omega⟩
  (fun K=>AN ⟨s_t,s_t,s_t,s_t,s_t,s_t,trivial⟩ trivial ⟨by dsimp only;rw[Nat.sub_self,List.replicate_zero,List.append_nil];rfl,trivial⟩) ?_
 rintro⟨j,hj1,hj2⟩
 dsimp only at hj1 hj2 ⊢
 have hout:((List.replicate (hd a b) (1:Int)++List.replicate (a.length-tlN a b-hd a b) 2)++List.replicate (j-(hd a b)) 3).length<=3000000:=by simp only[List.length_append,List.length_replicate,List.length_nil];omega
 have hsn:=DT (pre:=(List.replicate (hd a b) (1:Int)++List.replicate (a.length-tlN a b-hd a b) 2)) (k:=3) hj1
 generalize ho:(List.replicate (hd a b) (1:Int)++List.replicate (a.length-tlN a b-hd a b) 2)++List.replicate (j-(hd a b)) 3=out at hout hsn ⊢
 try refine A1 ?_
 refine A0 (A5 rfl rfl rfl rfl rfl (A5 rfl rfl rfl rfl rfl (A4 rfl rfl rfl (AP rfl (kn rfl) sle_22) (A5 rfl rfl rfl rfl rfl (A4 rfl rfl rfl (A3 rfl (kn rfl) (kn rfl) (AE (by first | omega | (dsimp only;omega)))) (A4 rfl rfl rfl (A3 rfl (kn rfl) (kn rfl) BF) .nil)))))) ?_
 try refine A1 ?_
 refine AC rfl (fun h=>?_) (fun h=>?_)
 ·try refine A1 ?_
  refine AL ?_
  refine AI ?_
  refine AM (AF (ds:=[_]) [(0,_)] rfl ⟨rfl,(kn rfl),trivial⟩ rfl sl_22 sz_3 zr_3 (fun w D=>.cons (.cell _) (.nil _ _)) rfl rfl rfl rfl rfl) ?_
  refine AY rfl rfl rfl rfl (kn rfl) rfl (kn rfl) sl_22 ap_22 rfl rfl (by omega) (by omega) ?_
  refine BO (BD out 3) (BV out 3) ?_
  refine B3 ?_
  refine AB ?_
  try refine A1 ?_
  rw[hsn]
  refine A0 (A5 rfl rfl rfl rfl rfl (A4 rfl rfl rfl (A3 rfl (kn rfl) (kn rfl) (AA (by first | omega | (dsimp only;omega)))) (A9 rfl rfl rfl rfl rfl .nil))) ?_
  try refine A1 ?_
  refine AR ⟨j+1,by omega,by have:=of_decide_eq_true h;omega⟩ (by dsimp only;have:=of_decide_eq_true h;omega) (fun K=>AN ⟨s_t,s_t,s_t,s_t,s_t,s_t,trivial⟩ trivial ⟨rfl,trivial⟩)
 obtain rfl:j=(b.length-tlN a b):=by have:=of_decide_eq_false h;omega
 rw[<- ho]
 clear hj1 hj2 hout hsn h ho
 try refine A1 ?_
 refine A0 (A9 rfl rfl rfl rfl rfl .nil) ?_
 try refine A1 ?_
 refine B8 (ι:={ j:Nat // 0<=j/\j<=(tlN a b) })
  (fun j=>[(0,.part (.one (zsD a))),(1,.part (.one (zsD b))),(5,zI (hd a b:Int)),(6,zI (tlN a b:Int)),(7,.own 1000),(11,zI (j.1:Int))])
  (fun _=>[]) (fun j=>[(1000,⟨3,1,((List.replicate (hd a b) (1:Int)++List.replicate (a.length-tlN a b-hd a b) 2++List.replicate (b.length-tlN a b-hd a b) 3)++List.replicate (j.1-0) 1).length,((List.replicate (hd a b) (1:Int)++List.replicate (a.length-tlN a b-hd a b) 2++List.replicate (b.length-tlN a b-hd a b) 3)++List.replicate (j.1-0) 1).flatMap zD1,false⟩)]) (fun j=>(tlN a b)-j.1) ⟨0,by omega,by omega⟩
  (fun K=>AN ⟨s_t,s_t,s_t,s_t,s_t,s_t,trivial⟩ trivial ⟨by dsimp only;rw[Nat.sub_self,List.replicate_zero,List.append_nil];rfl,trivial⟩) ?_
 rintro⟨j,hj1,hj2⟩
 dsimp only at hj1 hj2 ⊢
 have hout:((List.replicate (hd a b) (1:Int)++List.replicate (a.length-tlN a b-hd a b) 2++List.replicate (b.length-tlN a b-hd a b) 3)++List.replicate (j-0) 1).length<=3000000:=by simp only[List.length_append,List.length_replicate,List.length_nil];omega
 have hsn:=DT (pre:=(List.replicate (hd a b) (1:Int)++List.replicate (a.length-tlN a b-hd a b) 2++List.replicate (b.length-tlN a b-hd a b) 3)) (k:=1) hj1
 generalize ho:(List.replicate (hd a b) (1:Int)++List.replicate (a.length-tlN a b-hd a b) 2++List.replicate (b.length-tlN a b-hd a b) 3)++List.replicate (j-0) 1=out at hout hsn ⊢
 try refine A1 ?_
 refine A0 (A5 rfl rfl rfl rfl rfl (A5 rfl rfl rfl rfl rfl (A4 rfl rfl rfl (A3 rfl (kn rfl) (kn rfl) BF) .nil))) ?_
 try refine A1 ?_
 refine AC rfl (fun h=>?_) (fun h=>?_)
 ·try refine A1 ?_
  refine AL ?_
  refine AI ?_
  refine AM (AF (ds:=[_]) [(0,_)] rfl ⟨rfl,(kn rfl),trivial⟩ rfl sl_22 sz_3 zr_3 (fun w D=>.cons (.cell _) (.nil _ _)) rfl rfl rfl rfl rfl) ?_
  refine AY rfl rfl rfl rfl (kn rfl) rfl (kn rfl) sl_22 ap_22 rfl rfl (by omega) (by omega) ?_
  refine BO (BD out 1) (BV out 1) ?_
  refine B3 ?_
  refine AB ?_
  try refine A1 ?_
  rw[hsn]
  refine A0 (A5 rfl rfl rfl rfl rfl (A4 rfl rfl rfl (A3 rfl (kn rfl) (kn rfl) (AA (by first | omega | (dsimp only;omega)))) (A9 rfl rfl rfl rfl rfl .nil))) ?_
  try refine A1 ?_
  refine AR ⟨j+1,by omega,by have:=of_decide_eq_true h;omega⟩ (by dsimp only;have:=of_decide_eq_true h;omega) (fun K=>AN ⟨s_t,s_t,s_t,s_t,s_t,s_t,trivial⟩ trivial ⟨rfl,trivial⟩)
 obtain rfl:j=(tlN a b):=by have:=of_decide_eq_false h;omega
 rw[<- ho]
 clear hj1 hj2 hout hsn h ho
 try refine A1 ?_
 refine AT 7 1000 rfl rfl rfl ?_
 refine A0 (A5 rfl rfl rfl rfl rfl (A9 rfl rfl rfl rfl rfl .nil)) ?_
 try refine A1 ?_
 exact AJ rfl rfl (.tmp (kn rfl) (.nil)) (Imp.refl _) rfl
theorem J7(a b:List Int)(ha:a.length<=1000000)(hb:b.length<=1000000)(hn:400<edL a b):EF Try.prog [] 8 [.one (zsD a),.one (zsD b)] (.part (.one (zsD (apL a b)))):=by
 have ht:=F9 a b ha hb
 have hp:=K5 a b ha hb
 refine AU 100 Try.func8 rfl rfl rfl fun w D=>?_
 try refine A1 ?_
 refine A0 (A9 rfl rfl rfl rfl rfl .nil) ?_
 try refine A1 ?_
 refine A0 (A5 rfl rfl rfl rfl rfl (A5 rfl rfl rfl rfl rfl (A4 rfl rfl rfl (AX rfl (by kernel_rfl) (ht) ⟨(kn rfl),⟨(kn rfl),trivial⟩⟩) (A9 rfl rfl rfl rfl rfl .nil)))) ?_
 try refine A1 ?_
 refine AL ?_
 refine E9 1000 rfl rfl rfl rfl sl_22 ap_22 rfl rfl ?_
 refine B3 ?_
 refine AB ?_
 try refine A1 ?_
 refine A0 (A9 rfl rfl rfl rfl rfl (A9 rfl rfl rfl rfl rfl .nil)) ?_
 try refine A1 ?_
 refine A0 (A5 rfl rfl rfl rfl rfl (A4 rfl rfl rfl (AG rfl (kn rfl) (kn rfl) (by omega) (DA a b (Nat.zero_le _)) C9 sle_25 esz_25 rfl) (A4 rfl rfl rfl (A7 rfl (kn rfl) one_22) (A4 rfl rfl rfl (AG rfl (kn rfl) (kn rfl) (by omega) (CP a b 0 (Nat.zero_le _)) AH sle_22 esz_22 rfl) (A4 rfl rfl rfl (A7 rfl (kn rfl) one_3) (A4 rfl rfl rfl (A3 rfl (kn rfl) (kn rfl) D1) .nil)))))) ?_
 try refine A1 ?_
 refine AC rfl (fun _=>?_) (fun h=>absurd (show(400:Int)<(edL a b:Int) by omega) (of_decide_eq_false h))
 try refine A1 ?_
 refine A0 (A5 rfl rfl rfl rfl rfl (A5 rfl rfl rfl rfl rfl (A4 rfl rfl rfl (AX rfl (by kernel_rfl) (hp) ⟨(kn rfl),⟨(kn rfl),trivial⟩⟩) (A9 rfl rfl rfl rfl rfl .nil)))) ?_
 try refine A1 ?_
 exact AJ rfl rfl (.tmp (kn rfl) (.nil)) (Imp.refl _) rfl
theorem KF(a b:List Int)(ha:a.length<=1000000)(hb:b.length<=1000000):EF Try.prog [] 8 [.one (zsD a),.one (zsD b)] (.part (.one (zsD (C4 a b)))):=by
 unfold C4
 by_cases h:400<edL a b
 ·rw[if_pos h]
  exact J7 a b ha hb h
 ·rw[if_neg h]
  exact HV a b ha hb (by omega)
def rnD(p:Rn):List Dat:=[zC p.1,zC p.2]
theorem GS(p:Rn):(rnD p).length=2:=rfl
abbrev HI(l:List Rn):Dat:=.row 2 l.length (l.flatMap rnD)
theorem D6(l:List Rn):(l.flatMap rnD).length=l.length*2:=FP GS l
theorem KY(m:List Rn)(k c:Int):((m++[(k,c)]).flatMap rnD)[m.length*2+1]?=some (zC c)/\((m++[(k,c)]).flatMap rnD)[m.length*2]?=some (zC k):=by
 rw[List.flatMap_append]
 constructor
 ·rw[List.getElem?_append_right (by rw[D6];omega),D6,show m.length*2+1-m.length*2=1 by omega]
  rfl
 ·rw[List.getElem?_append_right (by rw[D6];omega),D6,Nat.sub_self]
  rfl
theorem KM(m:List Rn)(k c d:Int):((m++[(k,c)]).flatMap rnD).set (m.length*2+1) (zC d)=(m++[(k,d)]).flatMap rnD:=by
 rw[List.flatMap_append,List.flatMap_append,List.set_append_right _ _ (by rw[D6];omega),D6,show m.length*2+1-m.length*2=1 by omega]
 rfl
theorem GM(l:List Rn)(k c:Int):l.flatMap rnD++[zC k,zC c]=(l++[(k,c)]).flatMap rnD:=by simp[rnD]
theorem J5{l:List Int}{i:Nat}{k:Int}(h:l[i]?=some k):B7 (l.take (i+1))=BM (B7 (l.take i)) k 1:=by
 rw[List.take_add_one,h]
 exact BS _ _
set_option maxHeartbeats 2000000 in
theorem L6(l:List Int)(hl:l.length<=3000000):EF Try.prog [] 12 [.one (zsD l)] (.part (.one (HI (B7 l)))):=by
 refine AU 42 Try.func12 rfl rfl rfl fun w D=>?_
 try refine A1 ?_
 refine A0 (A9 rfl rfl rfl rfl rfl .nil) ?_
 try refine A1 ?_
 refine AL ?_
 refine E9 1000 rfl rfl rfl rfl sl_30 ap_30 rfl rfl ?_
 refine B3 ?_
 refine AB ?_
 try refine A1 ?_
 refine A0 (A5 rfl rfl rfl rfl rfl (A4 rfl rfl rfl (AP rfl (kn rfl) sle_22) (A5 rfl rfl rfl rfl rfl .nil))) ?_
 try refine A1 ?_
 refine B8 (ι:={ i:Nat // i<=l.length })
  (fun i=>[(0,.part (.one (zsD l))),(3,.own 1000),(7,.part (.one (zsD l))),(8,zI (l.length:Int)),(9,zI (i.1:Int))])
  (fun _=>[]) (fun i=>[(1000,⟨39,2,(B7 (l.take i.1)).length,(B7 (l.take i.1)).flatMap rnD,false⟩)]) (fun i=>l.length-i.1) ⟨0,Nat.zero_le _⟩
  (fun K=>AN ⟨s_t,s_t,s_t,s_t,s_t,trivial⟩ trivial ⟨rfl,trivial⟩) ?_
 rintro⟨i,hi⟩
 dsimp only at hi ⊢
 try refine A1 ?_
 refine A0 (A4 rfl rfl rfl (A3 rfl (kn rfl) (kn rfl) BF) .nil) ?_
 try refine A1 ?_
 refine AC rfl (fun h=>?_) (fun h=>?_)
 ·have hlt:=ltd h
  obtain⟨k,hk⟩:∃ k,l[i]?=some k:=⟨_,List.getElem?_eq_getElem hlt⟩
  obtain⟨p,hp⟩:∃ p,0<i->l[((i:Int)-1).toNat]?=some p:=⟨l.getD (i-1) 0,fun h0=>by rw[show((i:Int)-1).toNat=i-1 by omega,List.getD_eq_getElem?_getD,List.getElem?_eq_getElem (by omega)];rfl⟩
  have hnext:=J5 hk
  have hle:=F4 (l.take i)
  rw[List.length_take]at hle
  try refine A1 ?_
  refine A0 (A5 rfl rfl rfl rfl rfl (A4 rfl rfl rfl (AG rfl (kn rfl) (kn rfl) (by omega) hk AH sle_22 esz_22 rfl) (A4 rfl rfl rfl (A7 rfl (kn rfl) one_3) (A9 rfl rfl rfl rfl rfl (A9 rfl rfl rfl rfl rfl .nil))))) ?_
  try refine A1 ?_
  refine A0 (A5 rfl rfl rfl rfl rfl (A4 rfl rfl rfl (A3 rfl (kn rfl) (kn rfl) D1) (A5 rfl rfl rfl rfl rfl (Walk.gd _ rfl rfl rfl (fun h=>A6 rfl (kn rfl)) (Walk.gd _ rfl rfl rfl (fun h=>A6 rfl (kn rfl)) (Walk.gd _ rfl rfl rfl (fun h=>A3 rfl (A2 rfl h) (kn rfl) (AE (by first | omega | (dsimp only;omega)))) (Walk.gd _ rfl rfl rfl (fun h=>AG rfl (A2 rfl h) (A2 rfl h) (by have:=of_decide_eq_true h;omega) (hp (by have:=of_decide_eq_true h;omega)) AH sle_22 esz_22 rfl) (Walk.gd _ rfl rfl rfl (fun h=>A7 rfl (A2 rfl h) one_3) (Walk.gd _ rfl rfl rfl (fun h=>A6 rfl (kn rfl)) (Walk.gd _ rfl rfl rfl (fun h=>A3 rfl (A2 rfl h) (A2 rfl h) B9) (A4 rfl rfl rfl (BE rfl (kn rfl) (fun hb=>A2 rfl hb)) .nil))))))))))) ?_
  try refine A1 ?_
  refine AC rfl (fun h1=>?_) (fun h1=>?_)
  ·have h0:0<i:=by have:=of_decide_eq_true (gl h1);omega
   obtain rfl:=of_decide_eq_true (gr h1)
   obtain⟨j,rfl⟩:∃ j,i=j+1:=⟨i-1,by omega⟩
   have hp':l[j]?=some p:=by
    have:=hp h0
    rwa [show(((j+1:Nat):Int)-1).toNat=j by omega]at this
   obtain⟨m,c,hm⟩:=G9 (l.take j) p
   rw[show l.take j++[p]=l.take (j+1) by rw[List.take_add_one,hp'];rfl]at hm
   have hc:c<=(l.length:Int):=by
    have:=(FR (l:=l.take (j+1)) (p:=(p,c)) (by rw[hm];simp)).2.1
    rw[List.length_take]at this
    simp only at this
    omega
   have hc1:1<=c:=(FR (l:=l.take (j+1)) (p:=(p,c)) (by rw[hm];simp)).1
   rw[hm,BW (by decide)]at hnext
   rw[hm]at hle ⊢
   have hml:(m++[(p,c)]).length=m.length+1:=by simp
   have hg:=(KY m p c).1
   have hst:=KM m p c (c+1)
   have hfl:=D6 (m++[(p,c)])
   rw[hml]at hle hfl
   refine BO hml rfl ?_
   try refine A1 ?_
   refine AL ?_
   refine AI ?_
   refine AI ?_
   refine AM (BI rfl (kn rfl) rfl sle_30) ?_
   refine AM (A3 rfl (kn rfl) (kn rfl) (AE (by first | omega | (dsimp only;omega)))) ?_
   rw[show((m.length+1:Nat):Int)-1=(m.length:Int) by omega]
   refine AM (AD (z:=(m.length:Int)) rfl (kn rfl) rfl (kn rfl) ⟨by omega,by omega⟩ sle_30 esz_30) ?_
   refine AM (BC rfl (kn rfl) off_39_1) ?_
   refine AM (AQ rfl (kn rfl) rfl (by simpa using hg) one_3) ?_
   refine AM (A3 rfl (kn rfl) (kn rfl) (AA (by first | omega | (dsimp only;omega)))) ?_
   refine AM (AD (z:=(m.length:Int)) rfl (kn rfl) rfl (kn rfl) ⟨by omega,by omega⟩ sle_30 esz_30) ?_
   refine AM (BC rfl (kn rfl) off_39_1) ?_
   refine AZ (ds':=(m++[(p,c+1)]).flatMap rnD) rfl rfl rfl (kn rfl) rfl (kn rfl) rfl (by rw[hfl];omega) sz_3 (by simpa using hst) ?_ rfl
   refine AB ?_
   try refine A1 ?_
   refine A0 (A4 rfl rfl rfl (A3 rfl (kn rfl) (kn rfl) (AA (by first | omega | (dsimp only;omega)))) (A5 rfl rfl rfl rfl rfl .nil)) ?_
   try refine A1 ?_
   refine AR ⟨j+1+1,by omega⟩ (by dsimp only;omega) (fun K=>AN ⟨s_t,s_t,s_t,s_t,s_t,trivial⟩ trivial ⟨by dsimp only;rw[hnext];simp;rfl,trivial⟩)
  have hstep:BM (B7 (l.take i)) k 1=B7 (l.take i)++[(k,1)]:=by
   rcases Nat.eq_zero_or_pos i with h0 | h0
   ·subst h0
    exact C3 (by decide)
   ·obtain⟨j,rfl⟩:∃ j,i=j+1:=⟨i-1,by omega⟩
    have hp':l[j]?=some p:=by
     have:=hp h0
     rwa [show(((j+1:Nat):Int)-1).toNat=j by omega]at this
    obtain⟨m,c,hm⟩:=G9 (l.take j) p
    rw[show l.take j++[p]=l.take (j+1) by rw[List.take_add_one,hp'];rfl]at hm
    rw[hm]
    refine CV (by decide) fun e=>?_
    rw[decide_eq_true e,decide_eq_true (show(0:Int)<((j+1:Nat):Int) by omega)]at h1
    cases h1
  rw[hstep]at hnext
  generalize hR:B7 (l.take i)=r at hnext hle ⊢
  try refine A1 ?_
  refine AL ?_
  refine AI ?_
  refine AI ?_
  refine AM (CE (ds:=[_,_]) [(0,_),(1,_)] rfl ⟨rfl,(kn rfl),⟨rfl,(kn rfl),trivial⟩⟩ rfl pl_39 zr_39 (fun w D=>.cons (.cell _) (.cons (.cell _) (.nil _ _))) rfl) ?_
  refine AM (AF (ds:=[_,_]) [(0,_)] rfl ⟨rfl,(kn rfl),trivial⟩ rfl sl_30 sz_39 zr_39 (fun w D=>.cons (.cell _) (.cons (.cell _) (.nil _ _))) rfl rfl rfl rfl rfl) ?_
  refine AY rfl rfl rfl rfl (kn rfl) rfl (kn rfl) sl_30 ap_30 rfl rfl (by omega) (by omega) ?_
  refine BO (BD r (k,1)) (GM r k 1) ?_
  refine B3 ?_
  refine AB ?_
  try refine A1 ?_
  rw[<- hnext]
  refine A0 (A4 rfl rfl rfl (A3 rfl (kn rfl) (kn rfl) (AA (by first | omega | (dsimp only;omega)))) (A5 rfl rfl rfl rfl rfl .nil)) ?_
  try refine A1 ?_
  refine AR ⟨i+1,by omega⟩ (by dsimp only;omega) (fun K=>AN ⟨s_t,s_t,s_t,s_t,s_t,trivial⟩ trivial ⟨rfl,trivial⟩)
 rw[List.take_of_length_le (ltf h)]
 try refine A1 ?_
 refine AT 3 1000 rfl rfl rfl ?_
 refine A0 (A5 rfl rfl rfl rfl rfl (A9 rfl rfl rfl rfl rfl .nil)) ?_
 try refine A1 ?_
 exact AJ rfl rfl (.tmp (kn rfl) (.nil)) (Imp.refl _) rfl
end Go.Proofs.Ytjpghcmlglhmbaa
