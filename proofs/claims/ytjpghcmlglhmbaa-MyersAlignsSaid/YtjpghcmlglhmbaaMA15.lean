/- Part 15. Conditions: as each theorem says. -/
import Derived.Test.YtjpghcmlglhmbaaMA14
import Derived.Test.YtjpghcmlglhmbaaProg
set_option maxRecDepth 100000
namespace Go.Proofs.Ytjpghcmlglhmbaa
open Go.RowKit
theorem LG(k:Int):EF Try.prog [] 27 [.one HT,zP k,zP 0] (.part (.one HT)):=by
 refine AT 43 Try.func27 rfl rfl rfl fun w D=>?_
 try refine A2 ?_
 refine A0 (A9 rfl rfl rfl rfl rfl .nil) ?_
 try refine A2 ?_
 refine A0 (A6 rfl rfl rfl rfl rfl (A4 rfl rfl rfl (JY rfl (kn rfl) sle_28) (A4 rfl rfl rfl (A3 rfl (kn rfl) (kn rfl) (AB (by first | omega | (dsimp only;omega)))) (A9 rfl rfl rfl rfl rfl .nil)))) ?_
 try refine A2 ?_
 refine A0 (A6 rfl rfl rfl rfl rfl (A4 rfl rfl rfl (A3 rfl (kn rfl) (kn rfl) B2) (A9 rfl rfl rfl rfl rfl .nil))) ?_
 try refine A2 ?_
 refine AE rfl (fun _=>?_) (fun h=>absurd rfl (of_decide_eq_false h))
 try refine A2 ?_
 refine A0 (A6 rfl rfl rfl rfl rfl (A9 rfl rfl rfl rfl rfl .nil)) ?_
 try refine A2 ?_
 exact AI rfl rfl (.tmp (kn rfl) (.nil)) (Imp.refl _) rfl
theorem M6(k c:Int)(h0:c≠0):EO Try.prog [] 27 [.one HT,zP k,zP c] 45 2 1 [.int .i64 k,.int .i64 c]:=by
 refine HM 43 Try.func27 rfl rfl rfl fun w D=>?_
 try refine A2 ?_
 refine C9 0 1000 45 2 rfl rfl rfl ?_
 refine A0 (A9 rfl rfl rfl rfl rfl .nil) ?_
 try refine A2 ?_
 refine A0 (A6 rfl rfl rfl rfl rfl (A4 rfl rfl rfl (C6 rfl (kn rfl) rfl sle_28) (A4 rfl rfl rfl (A3 rfl (kn rfl) (kn rfl) (AB (by first | omega | (dsimp only;omega)))) (A9 rfl rfl rfl rfl rfl .nil)))) ?_
 try refine A2 ?_
 refine A0 (A6 rfl rfl rfl rfl rfl (A4 rfl rfl rfl (A3 rfl (kn rfl) (kn rfl) B2) (A9 rfl rfl rfl rfl rfl .nil))) ?_
 try refine A2 ?_
 refine AE rfl (fun h=>absurd (of_decide_eq_true h) h0) (fun _=>?_)
 try refine A2 ?_
 refine A0 (A6 rfl rfl rfl rfl rfl (A4 rfl rfl rfl (A3 rfl (kn rfl) (kn rfl) GB) (A6 rfl rfl rfl rfl rfl (Walk.gd _ rfl rfl rfl (fun h=>A5 rfl (kn rfl)) (Walk.gd _ rfl rfl rfl (fun h=>A5 rfl (kn rfl)) (Walk.gd _ rfl rfl rfl (fun h=>AC rfl (A1 rfl h) rfl (A1 rfl h) (absurd h (by decide)) sle_28 esz_28) (Walk.gd _ rfl rfl rfl (fun h=>BE rfl (A1 rfl h) off_45_0) (Walk.gd _ rfl rfl rfl (fun h=>AP rfl (A1 rfl h) rfl (show _=some (zC 0) from absurd h (by decide)) one_3) (Walk.gd _ rfl rfl rfl (fun h=>A5 rfl (kn rfl)) (Walk.gd _ rfl rfl rfl (fun h=>A3 rfl (A1 rfl h) (A1 rfl h) B2) (A4 rfl rfl rfl (BC rfl (kn rfl) (fun hb=>A1 rfl hb)) (A9 rfl rfl rfl rfl rfl .nil)))))))))))) ?_
 try refine A2 ?_
 refine AE rfl (fun h=>absurd (gl h) (by decide)) (fun _=>?_)
 try refine A2 ?_
 refine AR ?_
 refine AL ?_
 refine AL ?_
 refine AL ?_
 refine AM (CB (ds:=[_,_]) [(0,_),(1,_)] rfl ⟨rfl,(kn rfl),⟨rfl,(kn rfl),trivial⟩⟩ rfl pl_45 zr_45 (fun w D=>.cons (.cell _) (.cons (.cell _) (.nil _ _))) rfl) ?_
 refine AM (AH (ds:=[_,_]) [(0,_)] rfl ⟨rfl,(kn rfl),trivial⟩ rfl sl_28 sz_45 zr_45 (fun w D=>.cons (.cell _) (.cons (.cell _) (.nil _ _))) rfl rfl rfl rfl rfl) ?_
 refine B7 rfl rfl rfl rfl (kn rfl) rfl (kn rfl) sl_28 ap_28 rfl rfl (by first | omega | (dsimp only;omega)) (by first | omega | (dsimp only;omega)) ?_
 refine B9 ?_
 refine AD ?_
 try refine A2 ?_
 exact E2 rfl rfl rfl rfl (rfl) rfl
theorem FD(l:List Rn)(k c:Int):(BK l k c).length<=l.length+1:=by
 by_cases h0:c=0
 ·subst h0
  rw[BJ]
  omega
 rcases D6 l with rfl | ⟨m,k',c',rfl⟩
 ·rw[BZ h0]
  exact Nat.le_refl _
 ·by_cases hk:k'=k
  ·subst hk
   rw[BS h0]
   simp
  ·rw[CW h0 hk]
   simp
set_option maxHeartbeats 1000000 in
theorem ME(a b:List Int)(ha:a.length<=1000000)(hb:b.length<=1000000):EF Try.prog [] 23 [.one (zsD a),.one (zsD b)] (.part (.one (GT (B4 (apL a b))))):=by
 have hle:=H8 a b
 have htl:=IF a b
 have hal:=HE (a.drop (hd a b)) (b.drop (hd a b)) 0 0 0 (by omega) (by rw[List.length_drop];omega) (by rw[List.length_drop];omega) (by omega) (by omega)
 rw[show(alk (sm (a.drop (hd a b)) (b.drop (hd a b))) (a.drop (hd a b)).length 0 0:Nat)=tlN a b from rfl]at hal
 have hr1:=D7 [] 1 (hd a b)
 have hr2:=D7 ([]++List.replicate (hd a b) 1) 2 (a.length-tlN a b-hd a b)
 have hr3:=D7 ([]++List.replicate (hd a b) 1++List.replicate (a.length-tlN a b-hd a b) 2) 3 (b.length-tlN a b-hd a b)
 have hr4:=D7 ([]++List.replicate (hd a b) 1++List.replicate (a.length-tlN a b-hd a b) 2++List.replicate (b.length-tlN a b-hd a b) 3) 1 (tlN a b)
 have hap:apL a b=[]++List.replicate (hd a b) 1++List.replicate (a.length-tlN a b-hd a b) 2++List.replicate (b.length-tlN a b-hd a b) 3++List.replicate (tlN a b) 1:=rfl
 have hlen:=congrArg List.length hap
 simp only[List.length_append,List.length_replicate,List.length_nil]at hlen
 have m1:=F7 ([]++List.replicate (hd a b) 1) (by simp only[List.length_append,List.length_replicate,List.length_nil];omega)
 have m2:=F7 ([]++List.replicate (hd a b) 1++List.replicate (a.length-tlN a b-hd a b) 2) (by simp only[List.length_append,List.length_replicate,List.length_nil];omega)
 have m3:=F7 ([]++List.replicate (hd a b) 1++List.replicate (a.length-tlN a b-hd a b) 2++List.replicate (b.length-tlN a b-hd a b) 3) (by simp only[List.length_append,List.length_replicate,List.length_nil];omega)
 have l1:=FD [] 1 (hd a b:Int)
 have l2:=FD (BK [] 1 (hd a b:Int)) 2 ((a.length-tlN a b-hd a b:Nat):Int)
 have l3:=FD (BK (BK [] 1 (hd a b:Int)) 2 ((a.length-tlN a b-hd a b:Nat):Int)) 3 ((b.length-tlN a b-hd a b:Nat):Int)
 rw[hap]
 rw[hr4,hr3,hr2,hr1]
 rw[hr3,hr2,hr1]at m3
 rw[hr2,hr1]at m2
 rw[hr1]at m1
 rw[show B4 []=[] from rfl]at m1 m2 m3 ⊢
 have had1:=EL _ 2 ((a.length-tlN a b-hd a b:Nat):Int) (show(BK [] 1 (hd a b:Int)).length<=10000000 by simp only[List.length_nil]at l1;omega) m1 (by omega)
 have had2:=EL _ 3 ((b.length-tlN a b-hd a b:Nat):Int) (show(BK (BK [] 1 (hd a b:Int)) 2 ((a.length-tlN a b-hd a b:Nat):Int)).length<=10000000 by simp only[List.length_nil]at l1;omega) m2 (by omega)
 have had3:=EL _ 1 (tlN a b:Int) (show(BK (BK (BK [] 1 (hd a b:Int)) 2 ((a.length-tlN a b-hd a b:Nat):Int)) 3 ((b.length-tlN a b-hd a b:Nat):Int)).length<=10000000 by simp only[List.length_nil]at l1;omega) m3 (by omega)
 clear hr1 hr2 hr3 hr4 m1 m2 m3 l1 l2 l3 hap hlen
 refine AT 54 Try.func23 rfl rfl rfl fun w D=>?_
 try refine A2 ?_
 refine A0 (A9 rfl rfl rfl rfl rfl .nil) ?_
 try refine A2 ?_
 refine A0 (A9 rfl rfl rfl rfl rfl .nil) ?_
 try refine A2 ?_
 refine BA (ι:={ k:Nat // k<=hd a b })
  (fun k=>[(0,.part (.one (zsD a))),(1,.part (.one (zsD b))),(5,zI (k.1:Int))])
  (fun _=>[]) (fun _=>[]) (fun k=>hd a b-k.1) ⟨0,Nat.zero_le _⟩
  (fun K=>AO ⟨s_t,s_t,s_t,trivial⟩ trivial trivial) ?_
 rintro⟨k,hk⟩
 dsimp only at hk ⊢
 obtain⟨p,hp⟩:=ET a k
 obtain⟨q,hq⟩:=ET b k
 have pm:decide ((k:Int)<min (a.length:Int) (b.length:Int))=true->k<a.length/\k<b.length:=fun h=>by have:=of_decide_eq_true h;omega
 try refine A2 ?_
 refine C8 BO (by kernel_rfl) (A6 rfl rfl rfl rfl rfl (A6 rfl rfl rfl rfl rfl (A4 rfl rfl rfl (AJ rfl (kn rfl) sle_22) (A6 rfl rfl rfl rfl rfl (A4 rfl rfl rfl (AJ rfl (kn rfl) sle_22) (A4 rfl rfl rfl (NU rfl (kn rfl) (kn rfl)) (A4 rfl rfl rfl (A3 rfl (kn rfl) (kn rfl) BF) (A6 rfl rfl rfl rfl rfl (Walk.gd _ rfl rfl rfl (fun h=>A5 rfl (kn rfl)) (Walk.gd _ rfl rfl rfl (fun h=>A5 rfl (kn rfl)) (Walk.gd _ rfl rfl rfl (fun h=>AF rfl (A1 rfl h) (A1 rfl h) (by omega) (hp (pm h).1) AG sle_22 esz_22 rfl) (Walk.gd _ rfl rfl rfl (fun h=>A7 rfl (A1 rfl h) one_3) (Walk.gd _ rfl rfl rfl (fun h=>A5 rfl (kn rfl)) (Walk.gd _ rfl rfl rfl (fun h=>A5 rfl (kn rfl)) (Walk.gd _ rfl rfl rfl (fun h=>AF rfl (A1 rfl h) (A1 rfl h) (by omega) (hq (pm h).2) AG sle_22 esz_22 rfl) (Walk.gd _ rfl rfl rfl (fun h=>A7 rfl (A1 rfl h) one_3) (Walk.gd _ rfl rfl rfl (fun h=>A3 rfl (A1 rfl h) (A1 rfl h) B2) (A4 rfl rfl rfl (BC rfl (kn rfl) (fun hb=>A1 rfl hb)) .nil)))))))))))))))))) ?_
 try refine A2 ?_
 refine AE rfl (fun h=>?_) (fun h=>?_)
 ·have hlt:=(H4 hk (hp (pm (gl h)).1) (hq (pm (gl h)).2)).1 (of_decide_eq_true (gr h))
  try refine A2 ?_
  refine A0 (A6 rfl rfl rfl rfl rfl (A4 rfl rfl rfl (A3 rfl (kn rfl) (kn rfl) (AA (by first | omega | (dsimp only;omega)))) (A9 rfl rfl rfl rfl rfl .nil))) ?_
  try refine A2 ?_
  refine AS ⟨k+1,hlt⟩ (by dsimp only;omega) (fun K=>AO ⟨s_t,s_t,s_t,trivial⟩ trivial trivial)
 obtain rfl:k=hd a b:=by
  rcases Nat.lt_or_ge k (hd a b)with h1 | h1
  ·have e:=(H4 hk (hp (by omega)) (hq (by omega))).2 h1
   rw[decide_eq_true (show(k:Int)<min (a.length:Int) (b.length:Int) by omega),decide_eq_true e]at h
   cases h
  ·omega
 clear h hp hq hk pm
 have hda:(a.drop (hd a b)).length=a.length-hd a b:=List.length_drop
 have hdb:(b.drop (hd a b)).length=b.length-hd a b:=List.length_drop
 try refine A2 ?_
 refine C8 BO (by kernel_rfl) (A6 rfl rfl rfl rfl rfl (A6 rfl rfl rfl rfl rfl (A4 rfl rfl rfl (BB rfl (kn rfl) (kn rfl) (by omega) AG sle_22 esz_22) (A6 rfl rfl rfl rfl rfl (A6 rfl rfl rfl rfl rfl (A4 rfl rfl rfl (BB rfl (kn rfl) (kn rfl) (by omega) AG sle_22 esz_22) (A9 rfl rfl rfl rfl rfl (A9 rfl rfl rfl rfl rfl .nil)))))))) ?_
 try refine A2 ?_
 refine A0 (A6 rfl rfl rfl rfl rfl (A6 rfl rfl rfl rfl rfl (A4 rfl rfl rfl (AW rfl (by kernel_rfl) (hal) ⟨(kn rfl),⟨(kn rfl),⟨(kn rfl),⟨(kn rfl),trivial⟩⟩⟩⟩) (A9 rfl rfl rfl rfl rfl .nil)))) ?_
 try refine A2 ?_
 refine AO (T':=[(0,.part (.one (zsD (a.drop (hd a b))))),(1,.part (.one (zsD (b.drop (hd a b))))),(5,zI (hd a b:Int)),(6,zI (tlN a b:Int))]) (B':=[]) (R':=[]) ⟨s_t,s_t,s_t,s_t,trivial⟩ trivial trivial ?_
 have hv1:((a.drop (hd a b)).length:Int)-(tlN a b:Int)=((a.length-tlN a b-hd a b:Nat):Int):=by omega
 have hv2:((b.drop (hd a b)).length:Int)-(tlN a b:Int)=((b.length-tlN a b-hd a b:Nat):Int):=by omega
 by_cases h0:hd a b=0
 ·have e0:(hd a b:Int)=0:=by omega
  rw[e0,BJ]at had1 had2 had3
  rw[e0,BJ]
  refine A0 (A6 rfl rfl rfl rfl rfl (A4 rfl rfl rfl (AW rfl (by kernel_rfl) (LG 1) ⟨(kn rfl),⟨(kn rfl),⟨(kn rfl),trivial⟩⟩⟩) (A9 rfl rfl rfl rfl rfl .nil))) ?_
  try refine A2 ?_
  refine C9 7 1000 45 2 rfl rfl rfl ?_
  refine AR ?_
  refine AL ?_
  refine AL ?_
  refine AM (AJ rfl (kn rfl) sle_22) ?_
  refine AL ?_
  refine AM (A3 rfl (kn rfl) (kn rfl) (AB (by first | omega | (dsimp only;omega)))) ?_
  rw[hv1]
  refine C4 rfl rfl rfl rfl (by kernel_rfl) (had1) trivial ⟨rfl,trivial⟩ ⟨(kn rfl),⟨(kn rfl),⟨(kn rfl),trivial⟩⟩⟩ (YA.tidy) ?_
  rintro _ _ _ ⟨rfl,rfl,rfl⟩
  refine B9 ?_
  refine AD ?_
  try refine A2 ?_
  refine AR ?_
  refine AL ?_
  refine AL ?_
  refine AM (AJ rfl (kn rfl) sle_22) ?_
  refine AL ?_
  refine AM (A3 rfl (kn rfl) (kn rfl) (AB (by first | omega | (dsimp only;omega)))) ?_
  rw[hv2]
  refine C4 rfl rfl rfl rfl (by kernel_rfl) (had2) trivial ⟨rfl,trivial⟩ ⟨(kn rfl),⟨(kn rfl),⟨(kn rfl),trivial⟩⟩⟩ (YA.tidy) ?_
  rintro _ _ _ ⟨rfl,rfl,rfl⟩
  refine B9 ?_
  refine AD ?_
  try refine A2 ?_
  refine AR ?_
  refine AL ?_
  refine AL ?_
  refine C4 rfl rfl rfl rfl (by kernel_rfl) (had3) trivial ⟨rfl,trivial⟩ ⟨(kn rfl),⟨(kn rfl),⟨(kn rfl),trivial⟩⟩⟩ (YA.tidy) ?_
  rintro _ _ _ ⟨rfl,rfl,rfl⟩
  refine AU 53 1000 rfl rfl rfl ?_
  refine B9 ?_
  refine AD ?_
  try refine A2 ?_
  exact AI rfl rfl (.tmp (kn rfl) (.nil)) (Imp.refl _) rfl
 ·have h1:(hd a b:Int)≠0:=by omega
  have e1:=BZ (k:=1) h1
  rw[e1]at had1 had2 had3 ⊢
  refine AR ?_
  refine AL ?_
  refine J8 1000 rfl rfl rfl rfl (by kernel_rfl) (M6 1 (hd a b:Int) h1) ⟨kn rfl,kn rfl,kn rfl,trivial⟩ rfl rfl ?_
  refine B9 ?_
  refine AD ?_
  try refine A2 ?_
  refine AR ?_
  refine AL ?_
  refine AL ?_
  refine AM (AJ rfl (kn rfl) sle_22) ?_
  refine AL ?_
  refine AM (A3 rfl (kn rfl) (kn rfl) (AB (by first | omega | (dsimp only;omega)))) ?_
  rw[hv1]
  refine C4 rfl rfl rfl rfl (by kernel_rfl) (had1) trivial ⟨rfl,trivial⟩ ⟨(kn rfl),⟨(kn rfl),⟨(kn rfl),trivial⟩⟩⟩ (YA.tidy) ?_
  rintro _ _ _ ⟨rfl,rfl,rfl⟩
  refine B9 ?_
  refine AD ?_
  try refine A2 ?_
  refine AR ?_
  refine AL ?_
  refine AL ?_
  refine AM (AJ rfl (kn rfl) sle_22) ?_
  refine AL ?_
  refine AM (A3 rfl (kn rfl) (kn rfl) (AB (by first | omega | (dsimp only;omega)))) ?_
  rw[hv2]
  refine C4 rfl rfl rfl rfl (by kernel_rfl) (had2) trivial ⟨rfl,trivial⟩ ⟨(kn rfl),⟨(kn rfl),⟨(kn rfl),trivial⟩⟩⟩ (YA.tidy) ?_
  rintro _ _ _ ⟨rfl,rfl,rfl⟩
  refine B9 ?_
  refine AD ?_
  try refine A2 ?_
  refine AR ?_
  refine AL ?_
  refine AL ?_
  refine C4 rfl rfl rfl rfl (by kernel_rfl) (had3) trivial ⟨rfl,trivial⟩ ⟨(kn rfl),⟨(kn rfl),⟨(kn rfl),trivial⟩⟩⟩ (YA.tidy) ?_
  rintro _ _ _ ⟨rfl,rfl,rfl⟩
  refine AU 53 1000 rfl rfl rfl ?_
  refine B9 ?_
  refine AD ?_
  try refine A2 ?_
  exact AI rfl rfl (.tmp (kn rfl) (.nil)) (Imp.refl _) rfl
theorem FY(a b:List Int)(ha:a.length<=1000000)(hb:b.length<=1000000):EF Try.prog [] 11 [.one (zsD a),.one (zsD b)] (.part (.one (GT (B4 (B3 a b))))):=by
 unfold B3
 by_cases hn:400<edL a b
 ·rw[if_pos hn]
  have hr:=G6 a b ha hb hn
  have he:=ME a b ha hb
  refine AT 22 Try.func11 rfl rfl rfl fun w D=>?_
  try refine A2 ?_
  refine A0 (A9 rfl rfl rfl rfl rfl .nil) ?_
  try refine A2 ?_
  refine A0 (A6 rfl rfl rfl rfl rfl (A6 rfl rfl rfl rfl rfl (A4 rfl rfl rfl (AW rfl (by kernel_rfl) (hr) ⟨(kn rfl),⟨(kn rfl),trivial⟩⟩) (A6 rfl rfl rfl rfl rfl (A4 rfl rfl rfl (BI rfl (kn rfl) rfl) (A4 rfl rfl rfl (BI rfl (kn rfl) rfl) (A9 rfl rfl rfl rfl rfl (A9 rfl rfl rfl rfl rfl .nil)))))))) ?_
  try refine A2 ?_
  refine A0 (A6 rfl rfl rfl rfl rfl (A4 rfl rfl rfl (HK rfl (kn rfl)) .nil)) ?_
  try refine A2 ?_
  refine ML ?_
  try refine A2 ?_
  refine A0 (A6 rfl rfl rfl rfl rfl (A6 rfl rfl rfl rfl rfl (A4 rfl rfl rfl (AW rfl (by kernel_rfl) (he) ⟨(kn rfl),⟨(kn rfl),trivial⟩⟩) (A9 rfl rfl rfl rfl rfl .nil)))) ?_
  try refine A2 ?_
  exact AI rfl rfl (.tmp (kn rfl) (.nil)) (Imp.refl _) rfl
 ·rw[if_neg hn]
  have hr:=FV a b ha hb (by omega)
  have he:=LT a b ha hb (by omega)
  refine AT 22 Try.func11 rfl rfl rfl fun w D=>?_
  try refine A2 ?_
  refine A0 (A9 rfl rfl rfl rfl rfl .nil) ?_
  try refine A2 ?_
  refine A0 (A6 rfl rfl rfl rfl rfl (A6 rfl rfl rfl rfl rfl (A4 rfl rfl rfl (AW rfl (by kernel_rfl) (hr) ⟨(kn rfl),⟨(kn rfl),trivial⟩⟩) (A6 rfl rfl rfl rfl rfl (A4 rfl rfl rfl (BI rfl (kn rfl) rfl) (A4 rfl rfl rfl (BI rfl (kn rfl) rfl) (A9 rfl rfl rfl rfl rfl (A9 rfl rfl rfl rfl rfl .nil)))))))) ?_
  try refine A2 ?_
  refine A0 (A6 rfl rfl rfl rfl rfl (A4 rfl rfl rfl (HK rfl (kn rfl)) .nil)) ?_
  try refine A2 ?_
  refine N1 ?_
  try refine A2 ?_
  refine A0 (A6 rfl rfl rfl rfl rfl (A6 rfl rfl rfl rfl rfl (A6 rfl rfl rfl rfl rfl (A4 rfl rfl rfl (AW rfl (by kernel_rfl) (he) ⟨(kn rfl),⟨(kn rfl),⟨(kn rfl),trivial⟩⟩⟩) (A9 rfl rfl rfl rfl rfl .nil))))) ?_
  try refine A2 ?_
  exact AI rfl rfl (.tmp (kn rfl) (.nil)) (Imp.refl _) rfl
def HL(a b:List Int):Nat:=if 400<edL a b then 401 else edL a b
theorem EW(a b:List Int)(ha:a.length<=1000000)(hb:b.length<=1000000):EF Try.prog [] 13 [.one (zsD a),.one (zsD b)] (.part (zP (HL a b:Int))):=by
 unfold HL
 by_cases hn:400<edL a b
 ·rw[if_pos hn]
  have hr:=G6 a b ha hb hn
  refine AT 17 Try.func13 rfl rfl rfl fun w D=>?_
  try refine A2 ?_
  refine A0 (A9 rfl rfl rfl rfl rfl .nil) ?_
  try refine A2 ?_
  refine A0 (A6 rfl rfl rfl rfl rfl (A6 rfl rfl rfl rfl rfl (A4 rfl rfl rfl (AW rfl (by kernel_rfl) (hr) ⟨(kn rfl),⟨(kn rfl),trivial⟩⟩) (A6 rfl rfl rfl rfl rfl (A4 rfl rfl rfl (BI rfl (kn rfl) rfl) (A4 rfl rfl rfl (BI rfl (kn rfl) rfl) (A9 rfl rfl rfl rfl rfl (A9 rfl rfl rfl rfl rfl .nil)))))))) ?_
  try refine A2 ?_
  refine A0 (A6 rfl rfl rfl rfl rfl (A4 rfl rfl rfl (HK rfl (kn rfl)) .nil)) ?_
  try refine A2 ?_
  refine ML ?_
  try refine A2 ?_
  refine A0 (A9 rfl rfl rfl rfl rfl .nil) ?_
  try refine A2 ?_
  exact AI rfl rfl (.tmp (kn rfl) (.nil)) (Imp.refl _) rfl
 ·rw[if_neg hn]
  have hr:=FV a b ha hb (by omega)
  have hfl:=CJ a b (edL a b+1)
  have hdi:=J2 (BX a b (edL a b+1)) (by omega)
  rw[hfl,show(((edL a b+1:Nat)):Int)-1=(edL a b:Int) by omega]at hdi
  refine AT 17 Try.func13 rfl rfl rfl fun w D=>?_
  try refine A2 ?_
  refine A0 (A9 rfl rfl rfl rfl rfl .nil) ?_
  try refine A2 ?_
  refine A0 (A6 rfl rfl rfl rfl rfl (A6 rfl rfl rfl rfl rfl (A4 rfl rfl rfl (AW rfl (by kernel_rfl) (hr) ⟨(kn rfl),⟨(kn rfl),trivial⟩⟩) (A6 rfl rfl rfl rfl rfl (A4 rfl rfl rfl (BI rfl (kn rfl) rfl) (A4 rfl rfl rfl (BI rfl (kn rfl) rfl) (A9 rfl rfl rfl rfl rfl (A9 rfl rfl rfl rfl rfl .nil)))))))) ?_
  try refine A2 ?_
  refine A0 (A6 rfl rfl rfl rfl rfl (A4 rfl rfl rfl (HK rfl (kn rfl)) .nil)) ?_
  try refine A2 ?_
  refine N1 ?_
  try refine A2 ?_
  refine A0 (A6 rfl rfl rfl rfl rfl (A4 rfl rfl rfl (AW rfl (by kernel_rfl) (hdi) ⟨(kn rfl),trivial⟩) (A9 rfl rfl rfl rfl rfl .nil))) ?_
  try refine A2 ?_
  exact AI rfl rfl (.tmp (kn rfl) (.nil)) (Imp.refl _) rfl
theorem L6{f:Rn->Int}{r:List Rn}{i:Nat}{p:Rn}(h:r[i]?=some p):ED f (r.take (i+1))=ED f (r.take i)+f p:=by
 rw[List.take_add_one,h]
 exact GF f p _
theorem NP{r:List Rn}(h:OkR r)(i:Nat):0<=ED kpR (r.take i)/\ED kpR (r.take i)<=((ex r).length:Int):=by
 rw[IA _ fun p hp=>h p (List.mem_of_mem_take hp)]
 have h1:nK (ex (r.take i))<=(ex (r.take i)).length:=List.countP_le_length
 have h2:(ex r).length=(ex (r.take i)).length+(ex (r.drop i)).length:=by rw[<- List.length_append,<- DD,List.take_append_drop]
 omega
theorem JP(a b:List Int)(ha:a.length<=1000000)(hb:b.length<=1000000):EF Try.prog [] 14 [.one (zsD a),.one (zsD b)] (.part (zP (nK (B3 a b):Int))):=by
 have hal:=FY a b ha hb
 have hlen:=FR a b
 obtain⟨hok,hex⟩:=GS (B3 a b)
 have hrl:=E7 (B3 a b)
 have hsum:=IA _ hok
 have hle:=NP hok
 rw[hex]at hsum hle
 rw[<- hsum]
 have hmem:∀ p∈B4 (B3 a b),p.2<=2000000:=fun p hp=>by have:=DQ hp;omega
 generalize B4 (B3 a b)=r at hal hok hrl hle hmem ⊢
 refine AT 25 Try.func14 rfl rfl rfl fun w D=>?_
 try refine A2 ?_
 refine A0 (A9 rfl rfl rfl rfl rfl .nil) ?_
 try refine A2 ?_
 refine A0 (A9 rfl rfl rfl rfl rfl .nil) ?_
 try refine A2 ?_
 refine A0 (A6 rfl rfl rfl rfl rfl (A6 rfl rfl rfl rfl rfl (A4 rfl rfl rfl (AW rfl (by kernel_rfl) (hal) ⟨(kn rfl),⟨(kn rfl),trivial⟩⟩) (A4 rfl rfl rfl (AJ rfl (kn rfl) sle_28) (A6 rfl rfl rfl rfl rfl .nil))))) ?_
 try refine A2 ?_
 refine BA (ι:={ i:Nat // i<=r.length })
  (fun i=>[(5,zI (ED kpR (r.take i.1))),(10,.part (.one (GT r))),(11,zI (r.length:Int)),(12,zI (i.1:Int))])
  (fun _=>[]) (fun _=>[]) (fun i=>r.length-i.1) ⟨0,Nat.zero_le _⟩
  (fun K=>AO ⟨s_t,s_t,s_t,s_t,trivial⟩ trivial trivial) ?_
 rintro⟨i,hi⟩
 dsimp only at hi ⊢
 have hbd:=hle i
 try refine A2 ?_
 refine A0 (A4 rfl rfl rfl (A3 rfl (kn rfl) (kn rfl) BF) .nil) ?_
 try refine A2 ?_
 refine AE rfl (fun h=>?_) (fun h=>?_)
 ·obtain⟨⟨k,c⟩,hp⟩:∃ p,r[i]?=some p:=⟨_,List.getElem?_eq_getElem (ltd h)⟩
  have hst:=L6 (f:=kpR) hp
  have hc:c<=2000000:=hmem _ (List.mem_of_getElem? hp)
  have hc1:1<=c:=hok _ (List.mem_of_getElem? hp)
  try refine A2 ?_
  refine AR ?_
  refine AM (AF rfl (kn rfl) (kn rfl) (by omega) hp F3 sle_28 esz_28 rfl) ?_
  refine AM (D9 rfl (kn rfl) agg_45 sz_45) ?_
  refine IH 7 [.is (.int .i64 0),.is (.int .i64 0)] rfl rfl rfl rfl zr_45 (fun w D M V=>⟨rfl,fun j x v h1 h2=>II _ h1 h2 rfl⟩) rfl rfl rfl rfl ?_
  refine HJ rfl rfl rfl (kn rfl) rfl (kn rfl) rfl rfl sz_45 ?_
  refine AD ?_
  try refine A2 ?_
  refine A0 (A4 rfl rfl rfl (EV rfl (kn rfl) off_45_0) (A4 rfl rfl rfl (EX rfl (kn rfl) rfl rfl one_3) (A4 rfl rfl rfl (A3 rfl (kn rfl) (kn rfl) B2) .nil))) ?_
  try refine A2 ?_
  refine AE rfl (fun h1=>?_) (fun h1=>?_)
  ·have hk:kpR (k,c)=c:=if_pos (of_decide_eq_true h1)
   try refine A2 ?_
   refine A0 (A6 rfl rfl rfl rfl rfl (A4 rfl rfl rfl (EV rfl (kn rfl) off_45_1) (A4 rfl rfl rfl (EX rfl (kn rfl) rfl rfl one_3) (A4 rfl rfl rfl (A3 rfl (kn rfl) (kn rfl) (AA (by first | omega | (dsimp only;omega)))) (A9 rfl rfl rfl rfl rfl .nil))))) ?_
   try refine A2 ?_
   refine A0 (A4 rfl rfl rfl (A3 rfl (kn rfl) (kn rfl) (AA (by first | omega | (dsimp only;omega)))) (A6 rfl rfl rfl rfl rfl .nil)) ?_
   try refine A2 ?_
   refine AS ⟨i+1,by have:=ltd h;omega⟩ (by dsimp only;have:=ltd h;omega) (fun K=>AO ⟨s_z rfl (by dsimp only;rw[hst,hk]),s_t,s_t,s_t,trivial⟩ trivial trivial)
  ·have hk:kpR (k,c)=0:=if_neg (of_decide_eq_false h1)
   try refine A2 ?_
   refine A0 (A4 rfl rfl rfl (A3 rfl (kn rfl) (kn rfl) (AA (by first | omega | (dsimp only;omega)))) (A6 rfl rfl rfl rfl rfl .nil)) ?_
   try refine A2 ?_
   refine AS ⟨i+1,by have:=ltd h;omega⟩ (by dsimp only;have:=ltd h;omega) (fun K=>AO ⟨s_z rfl (by dsimp only;rw[hst,hk,Int.add_zero]),s_t,s_t,s_t,trivial⟩ trivial trivial)
 rw[List.take_of_length_le (ltf h)]
 try refine A2 ?_
 refine A0 (A6 rfl rfl rfl rfl rfl (A9 rfl rfl rfl rfl rfl .nil)) ?_
 try refine A2 ?_
 exact AI rfl rfl (.tmp (kn rfl) (.nil)) (Imp.refl _) rfl
theorem NA{p q:Rn}:CH Try.prog .neq 39 (.agg #[.int .i64 p.1,.int .i64 p.2]) (.agg #[.int .i64 q.1,.int .i64 q.2]) (.bool (!decide (p=q))):=by
 have h:=LV (P:=Try.prog) (t:=39) (cs:=[.int .i64 p.1,.int .i64 p.2]) (ds:=[.int .i64 q.1,.int .i64 q.2]) (by kernel_rfl) (by kernel_rfl) (by kernel_rfl) (GZ (ks:=[false,false]) (by kernel_rfl) (.int _ _ _ (.int _ _ _ .nil)))
 have e:HC ([Value.int .i64 p.1,Value.int .i64 p.2]=[Value.int .i64 q.1,Value.int .i64 q.2])=decide (p=q):=by
  have h1:([Value.int .i64 p.1,Value.int .i64 p.2]=[Value.int .i64 q.1,Value.int .i64 q.2])↔p=q:=by
   constructor
   ·intro h
    injection h with h1 h2
    injection h1 with _ h1
    injection h2 with h2 _
    injection h2 with _ h2
    exact Prod.ext h1 h2
   ·rintro rfl
    rfl
  by_cases hp:p=q
  ·rw[decide_eq_true hp]
   simp[HC,h1,hp]
  ·rw[decide_eq_false hp]
   simp[HC,h1,hp]
 rwa [e]at h
theorem KP{a b:List Rn}{k:Nat}{p q:Rn}(h:a.take k=b.take k)(hp:a[k]?=some p)(hq:b[k]?=some q):a.take (k+1)=b.take (k+1)↔p=q:=by
 rw[List.take_add_one,List.take_add_one,h,hp,hq]
 simp
theorem IS(a b:List Rn)(ha:a.length<=10000000)(hb:b.length<=10000000):EF Try.prog [] 10 [.one (GT a),.one (GT b)] (.part (bP (decide (a=b)))):=by
 refine AT 26 Try.func10 rfl rfl rfl fun w D=>?_
 try refine A2 ?_
 refine A0 (A9 rfl rfl rfl rfl rfl .nil) ?_
 try refine A2 ?_
 refine A0 (A6 rfl rfl rfl rfl rfl (A4 rfl rfl rfl (AJ rfl (kn rfl) sle_28) (A6 rfl rfl rfl rfl rfl (A4 rfl rfl rfl (AJ rfl (kn rfl) sle_30) (A4 rfl rfl rfl (A3 rfl (kn rfl) (kn rfl) O8) .nil))))) ?_
 try refine A2 ?_
 refine AE rfl (fun h=>?_) (fun h=>?_)
 ·try refine A2 ?_
  refine A0 (A9 rfl rfl rfl rfl rfl .nil) ?_
  try refine A2 ?_
  exact AI rfl rfl (.tmp (kn rfl) (.nil)) (G8 (decide_eq_false fun e=>by subst e;simp at h).symm) rfl
 have hl:a.length=b.length:=by
  simp only[Bool.not_eq_false',decide_eq_true_eq]at h
  omega
 try refine A2 ?_
 refine A0 (A6 rfl rfl rfl rfl rfl (A4 rfl rfl rfl (AJ rfl (kn rfl) sle_28) (A6 rfl rfl rfl rfl rfl .nil))) ?_
 try refine A2 ?_
 refine BA (ι:={ i:Nat // i<=a.length/\a.take i=b.take i })
  (fun i=>[(1,.part (.one (GT b))),(12,.part (.one (GT a))),(13,zI (a.length:Int)),(14,zI (i.1:Int))])
  (fun _=>[]) (fun _=>[]) (fun i=>a.length-i.1) ⟨0,Nat.zero_le _,rfl⟩
  (fun K=>AO ⟨s_t,s_t,s_t,s_t,trivial⟩ trivial trivial) ?_
 rintro⟨i,hi,ht⟩
 dsimp only at hi ht ⊢
 try refine A2 ?_
 refine A0 (A4 rfl rfl rfl (A3 rfl (kn rfl) (kn rfl) BF) .nil) ?_
 try refine A2 ?_
 refine AE rfl (fun h=>?_) (fun h=>?_)
 ·have hlt:=ltd h
  obtain⟨p,hp⟩:∃ p,a[i]?=some p:=⟨_,List.getElem?_eq_getElem hlt⟩
  obtain⟨q,hq⟩:∃ q,b[i]?=some q:=⟨_,List.getElem?_eq_getElem (by omega)⟩
  have he:=KP ht hp hq
  try refine A2 ?_
  refine AR ?_
  refine AL ?_
  refine AM (AF rfl (kn rfl) (kn rfl) (by omega) hp F3 sle_28 esz_28 rfl) ?_
  refine AM (D9 rfl (kn rfl) agg_45 sz_45) ?_
  refine IH 6 [.is (.int .i64 0),.is (.int .i64 0)] rfl rfl rfl rfl zr_45 (fun w D M V=>⟨rfl,fun j x v h1 h2=>II _ h1 h2 rfl⟩) rfl rfl rfl rfl ?_
  refine B9 ?_
  refine HJ rfl rfl rfl (kn rfl) rfl (kn rfl) rfl rfl sz_45 ?_
  refine AD ?_
  try refine A2 ?_
  refine C8 BO (by kernel_rfl) (A4 rfl rfl rfl (HF (ds:=[_,_]) 2 rfl (kn rfl) rfl rfl agg_45 sz_45 rfl) (A6 rfl rfl rfl rfl rfl (A6 rfl rfl rfl rfl rfl (A4 rfl rfl rfl (AF rfl (kn rfl) (kn rfl) (by omega) hq F3 sle_30 esz_30 rfl) (A4 rfl rfl rfl (D9 rfl (kn rfl) agg_39 sz_39) (A4 rfl rfl rfl (NB (cs:=[.int .i64 p.1,.int .i64 p.2]) (ds:=[.int .i64 q.1,.int .i64 q.2]) rfl (kn rfl) (kn rfl) NA) .nil)))))) ?_
  try refine A2 ?_
  refine AE rfl (fun h1=>?_) (fun h1=>?_)
  ·try refine A2 ?_
   refine A0 (A9 rfl rfl rfl rfl rfl .nil) ?_
   try refine A2 ?_
   exact AI rfl rfl (.tmp (kn rfl) (.nil)) (G8 (decide_eq_false fun e=>by subst e;have e1:=hp.symm.trans hq;injection e1 with e1;simp[e1]at h1).symm) rfl
  have h2:p=q:=by simpa using h1
  try refine A2 ?_
  refine A0 (A4 rfl rfl rfl (A3 rfl (kn rfl) (kn rfl) (AA (by first | omega | (dsimp only;omega)))) (A6 rfl rfl rfl rfl rfl .nil)) ?_
  try refine A2 ?_
  refine AS ⟨i+1,by omega,he.2 h2⟩ (by dsimp only;omega) (fun K=>AO ⟨s_t,s_t,s_t,s_t,trivial⟩ trivial trivial)
 rw[List.take_of_length_le (ltf h),List.take_of_length_le (by have:=ltf h;omega)]at ht
 try refine A2 ?_
 refine A0 (A9 rfl rfl rfl rfl rfl .nil) ?_
 try refine A2 ?_
 exact AI rfl rfl (.tmp (kn rfl) (.nil)) (G8 (decide_eq_true ht).symm) rfl
theorem KG(b:List Int):edL [] b=b.length:=BM _
theorem I3(a:List Int):edL a []=a.length:=BW _
theorem KT:B4 (B3 [1,2,3] [1,3,4])=[(1,1),(2,1),(1,1),(3,1)]:=by
 have h1:edL [1,2,3] [1,3,4]=2:=by simp[H5,KG,I3]
 have h2:stL [1,2,3] [1,3,4]=[1,2,1,3]:=by simp[KF,H5,KG,I3,MB,O5]
 unfold B3
 rw[h1,if_neg (by decide),h2]
 rfl
theorem LY:HL [1] []=1:=by
 unfold HL
 rw[I3]
 rfl
theorem KN:EF Try.prog [] 7 [] (.part (bP true)):=by
 have h1:=FY [1,2,3] [1,3,4] (by decide) (by decide)
 rw[KT]at h1
 have h2:=IS [(1,1),(2,1),(1,1),(3,1)] [(1,1),(2,1),(1,1),(3,1)] (by decide) (by decide)
 rw[decide_eq_true rfl]at h2
 have h3:=EW [1] [] (by decide) (by decide)
 rw[LY]at h3
 refine AT 17 Try.func7 rfl rfl rfl fun w D=>?_
 try refine A2 ?_
 refine A0 (A9 rfl rfl rfl rfl rfl .nil) ?_
 try refine A2 ?_
 refine A0 (A4 rfl rfl rfl (AH (ds:=[_,_,_]) [(0,_),(1,_),(2,_)] rfl ⟨rfl,(kn rfl),⟨rfl,(kn rfl),⟨rfl,(kn rfl),trivial⟩⟩⟩ rfl sl_22 sz_3 zr_3 (fun w D=>.cons (.cell _) (.cons (.cell _) (.cons (.cell _) (.nil _ _)))) rfl rfl rfl rfl rfl) (A4 rfl rfl rfl (AH (ds:=[_,_,_]) [(0,_),(1,_),(2,_)] rfl ⟨rfl,(kn rfl),⟨rfl,(kn rfl),⟨rfl,(kn rfl),trivial⟩⟩⟩ rfl sl_22 sz_3 zr_3 (fun w D=>.cons (.cell _) (.cons (.cell _) (.cons (.cell _) (.nil _ _)))) rfl rfl rfl rfl rfl) (A4 rfl rfl rfl (AW rfl (by kernel_rfl) (h1) ⟨(kn rfl),⟨(kn rfl),trivial⟩⟩) (A9 rfl rfl rfl rfl rfl .nil)))) ?_
 try refine A2 ?_
 refine A0 (A6 rfl rfl rfl rfl rfl (A4 rfl rfl rfl (CB (ds:=[_,_]) [(0,_),(1,_)] rfl ⟨rfl,(kn rfl),⟨rfl,(kn rfl),trivial⟩⟩ rfl pl_39 zr_39 (fun w D=>.cons (.cell _) (.cons (.cell _) (.nil _ _))) rfl) (A4 rfl rfl rfl (CB (ds:=[_,_]) [(0,_),(1,_)] rfl ⟨rfl,(kn rfl),⟨rfl,(kn rfl),trivial⟩⟩ rfl pl_39 zr_39 (fun w D=>.cons (.cell _) (.cons (.cell _) (.nil _ _))) rfl) (A4 rfl rfl rfl (CB (ds:=[_,_]) [(0,_),(1,_)] rfl ⟨rfl,(kn rfl),⟨rfl,(kn rfl),trivial⟩⟩ rfl pl_39 zr_39 (fun w D=>.cons (.cell _) (.cons (.cell _) (.nil _ _))) rfl) (A4 rfl rfl rfl (CB (ds:=[_,_]) [(0,_),(1,_)] rfl ⟨rfl,(kn rfl),⟨rfl,(kn rfl),trivial⟩⟩ rfl pl_39 zr_39 (fun w D=>.cons (.cell _) (.cons (.cell _) (.nil _ _))) rfl) (A4 rfl rfl rfl (AH (ds:=[_,_,_,_,_,_,_,_]) [(0,_),(1,_),(2,_),(3,_)] rfl ⟨rfl,(kn rfl),⟨rfl,(kn rfl),⟨rfl,(kn rfl),⟨rfl,(kn rfl),trivial⟩⟩⟩⟩ rfl sl_30 sz_39 zr_39 (fun w D=>.cons (.cell _) (.cons (.cell _) (.cons (.cell _) (.cons (.cell _) (.cons (.cell _) (.cons (.cell _) (.cons (.cell _) (.cons (.cell _) (.nil _ _))))))))) rfl rfl rfl rfl rfl) (A4 rfl rfl rfl (AW rfl (by kernel_rfl) (h2) ⟨(kn rfl),⟨(kn rfl),trivial⟩⟩) (A6 rfl rfl rfl rfl rfl (Walk.gd _ rfl rfl rfl (fun h=>AH (ds:=[_]) [(0,_)] rfl ⟨rfl,(kn rfl),trivial⟩ rfl sl_22 sz_3 zr_3 (fun w D=>.cons (.cell _) (.nil _ _)) rfl rfl rfl rfl rfl) (Walk.gd _ rfl rfl rfl (fun h=>AW rfl (by kernel_rfl) h3 ⟨A1 rfl h,EN (kn rfl) (Imp.nil 1),trivial⟩) (Walk.gd _ rfl rfl rfl (fun h=>A3 rfl (A1 rfl h) (kn rfl) B2) (A4 rfl rfl rfl (BC rfl (kn rfl) (fun hb=>A1 rfl hb)) (A9 rfl rfl rfl rfl rfl .nil))))))))))))) ?_
 try refine A2 ?_
 exact AI rfl rfl (.tmp (kn rfl) (.nil)) (G8 rfl) rfl
theorem J7{a b:List Int}(h:edL a b<=400):HL a b=edL a b:=if_neg (by omega)
theorem KY{a b:List Int}(h:edL a b<=400):B3 a b=stL a b:=if_neg (by omega)
theorem LK{l:List Int}{i:Nat}{z:Int}(h:l[i]?=some z):nK (l.take (i+1))=nK (l.take i)+if z=1 then 1 else 0:=by
 rw[List.take_add_one,h]
 show nK (l.take i++[z])=_
 rw[GA]
 congr 1
 rw[CP]
 simp[nK]
theorem MH(l:List Int):nK l<=l.length:=List.countP_le_length
theorem N8(a b:List Int):edL a b<=a.length+b.length:=(K9 _ _).2.2
theorem gt_60{n:Nat}(h:decide ((60:Int)<(n:Int))=false):n<=60:=by have:=of_decide_eq_false h;omega
set_option maxHeartbeats 1000000 in
theorem JJ(a b:List Int):EF Try.prog [] 3 [.one (zsD a),.one (zsD b)] (.part (bP true)):=by
 refine AT 73 Try.func3 rfl rfl rfl fun w D=>?_
 try refine A2 ?_
 refine A0 (A9 rfl rfl rfl rfl rfl .nil) ?_
 try refine A2 ?_
 refine A0 (A4 rfl rfl rfl (AW rfl (by kernel_rfl) (KN) trivial) (A4 rfl rfl rfl (HK rfl (kn rfl)) .nil)) ?_
 try refine A2 ?_
 refine N1 ?_
 try refine A2 ?_
 refine A0 (A6 rfl rfl rfl rfl rfl (A4 rfl rfl rfl (AJ rfl (kn rfl) sle_22) (A4 rfl rfl rfl (A3 rfl (kn rfl) (kn rfl) DG) (A6 rfl rfl rfl rfl rfl (Walk.gd _ rfl rfl rfl (fun h=>A5 rfl (kn rfl)) (Walk.gd _ rfl rfl rfl (fun h=>AJ rfl (A1 rfl h) sle_22) (Walk.gd _ rfl rfl rfl (fun h=>A3 rfl (A1 rfl h) (kn rfl) DG) (A4 rfl rfl rfl (LL rfl (kn rfl) (fun hb=>A1 rfl hb)) .nil)))))))) ?_
 try refine A2 ?_
 refine AE rfl (fun h=>?_) (fun h=>?_)
 ·try refine A2 ?_
  refine A0 (A9 rfl rfl rfl rfl rfl .nil) ?_
  try refine A2 ?_
  exact AI rfl rfl (.tmp (kn rfl) (.nil)) (Imp.refl _) rfl
 rw[Bool.or_eq_false_iff]at h
 have ha:=gt_60 h.1
 have hb:=gt_60 h.2
 have hne:edL a b<=400:=by have:=N8 a b;omega
 have hst:=KO a b (by omega) (by omega)
 have htb:=G0 a b (by omega) (by omega)
 have hal:=FY a b (by omega) (by omega)
 have hdi:=EW a b (by omega) (by omega)
 have hco:=JP a b (by omega) (by omega)
 have hlen:=FR a b
 have hru:=MF (B3 a b) (by omega)
 have hrl:=E7 (B3 a b)
 have hsa:=IS (B4 (B3 a b)) (B4 (B3 a b)) (by omega) (by omega)
 rw[decide_eq_true rfl]at hsa
 rw[J7 hne]at hdi
 have hsum:edL a b+2*nK (B3 a b)=a.length+b.length:=by rw[KY hne];exact(GP a b).2.1
 have hnK:=MH (B3 a b)
 generalize B3 a b=l at hst hal hco hlen hru hrl hsa hsum hnK
 try refine A2 ?_
 refine A0 (A6 rfl rfl rfl rfl rfl (A6 rfl rfl rfl rfl rfl (A4 rfl rfl rfl (AW rfl (by kernel_rfl) (hst) ⟨(kn rfl),⟨(kn rfl),trivial⟩⟩) (A9 rfl rfl rfl rfl rfl .nil)))) ?_
 try refine A2 ?_
 refine A0 (A9 rfl rfl rfl rfl rfl .nil) ?_
 try refine A2 ?_
 refine A0 (A6 rfl rfl rfl rfl rfl (A4 rfl rfl rfl (AJ rfl (kn rfl) sle_22) (A6 rfl rfl rfl rfl rfl .nil))) ?_
 try refine A2 ?_
 refine BA (ι:={ i:Nat // i<=l.length })
  (fun i=>[(0,.part (.one (zsD a))),(1,.part (.one (zsD b))),(5,.part (.one (zsD l))),(6,zI (nK (l.take i.1):Int)),(23,.part (.one (zsD l))),(24,zI (l.length:Int)),(25,zI (i.1:Int))])
  (fun _=>[]) (fun _=>[]) (fun i=>l.length-i.1) ⟨0,Nat.zero_le _⟩
  (fun K=>AO ⟨s_t,s_t,s_t,s_t,s_t,s_t,s_t,trivial⟩ trivial trivial) ?_
 rintro⟨i,hi⟩
 dsimp only at hi ⊢
 have hki:=MH (l.take i)
 rw[List.length_take]at hki
 try refine A2 ?_
 refine A0 (A4 rfl rfl rfl (A3 rfl (kn rfl) (kn rfl) BF) .nil) ?_
 try refine A2 ?_
 refine AE rfl (fun h=>?_) (fun h=>?_)
 ·have hlt:=ltd h
  obtain⟨z,hz⟩:∃ z,l[i]?=some z:=⟨_,List.getElem?_eq_getElem hlt⟩
  have hs:=LK hz
  try refine A2 ?_
  refine A0 (A4 rfl rfl rfl (AF rfl (kn rfl) (kn rfl) (by omega) hz AG sle_22 esz_22 rfl) (A4 rfl rfl rfl (A7 rfl (kn rfl) one_3) (A9 rfl rfl rfl rfl rfl .nil))) ?_
  try refine A2 ?_
  refine A0 (A6 rfl rfl rfl rfl rfl (A4 rfl rfl rfl (A3 rfl (kn rfl) (kn rfl) B2) .nil)) ?_
  try refine A2 ?_
  refine AE rfl (fun h1=>?_) (fun h1=>?_)
  ·rw[if_pos (of_decide_eq_true h1)]at hs
   try refine A2 ?_
   refine A0 (A6 rfl rfl rfl rfl rfl (A4 rfl rfl rfl (A3 rfl (kn rfl) (kn rfl) (AA (by first | omega | (dsimp only;omega)))) (A9 rfl rfl rfl rfl rfl .nil))) ?_
   try refine A2 ?_
   refine A0 (A4 rfl rfl rfl (A3 rfl (kn rfl) (kn rfl) (AA (by first | omega | (dsimp only;omega)))) (A6 rfl rfl rfl rfl rfl .nil)) ?_
   try refine A2 ?_
   refine AS ⟨i+1,hlt⟩ (by dsimp only;omega) (fun K=>AO ⟨s_t,s_t,s_t,s_z rfl (by dsimp only;rw[hs];rfl),s_t,s_t,s_t,trivial⟩ trivial trivial)
  ·rw[if_neg (of_decide_eq_false h1)]at hs
   try refine A2 ?_
   refine A0 (A4 rfl rfl rfl (A3 rfl (kn rfl) (kn rfl) (AA (by first | omega | (dsimp only;omega)))) (A6 rfl rfl rfl rfl rfl .nil)) ?_
   try refine A2 ?_
   refine AS ⟨i+1,hlt⟩ (by dsimp only;omega) (fun K=>AO ⟨s_t,s_t,s_t,s_z rfl (by dsimp only;rw[hs];rfl),s_t,s_t,s_t,trivial⟩ trivial trivial)
 rw[List.take_of_length_le (ltf h)]
 try refine A2 ?_
 refine A0 (A6 rfl rfl rfl rfl rfl (A6 rfl rfl rfl rfl rfl (A4 rfl rfl rfl (AW rfl (by kernel_rfl) (htb) ⟨(kn rfl),⟨(kn rfl),trivial⟩⟩) (A4 rfl rfl rfl (AF rfl (kn rfl) (kn rfl) (by omega) (DC a b (Nat.zero_le _)) CA sle_25 esz_25 rfl) (A4 rfl rfl rfl (A7 rfl (kn rfl) one_22) (A4 rfl rfl rfl (AF rfl (kn rfl) (kn rfl) (by omega) (CN a b 0 (Nat.zero_le _)) AG sle_22 esz_22 rfl) (A4 rfl rfl rfl (A7 rfl (kn rfl) one_3) (A9 rfl rfl rfl rfl rfl .nil)))))))) ?_
 try refine A2 ?_
 refine A0 (A6 rfl rfl rfl rfl rfl (A6 rfl rfl rfl rfl rfl (A4 rfl rfl rfl (AW rfl (by kernel_rfl) (hal) ⟨(kn rfl),⟨(kn rfl),trivial⟩⟩) (A6 rfl rfl rfl rfl rfl (A4 rfl rfl rfl (AW rfl (by kernel_rfl) (hru) ⟨(kn rfl),trivial⟩) (A4 rfl rfl rfl (AW rfl (by kernel_rfl) (hsa) ⟨(kn rfl),⟨(kn rfl),trivial⟩⟩) (A6 rfl rfl rfl rfl rfl (Walk.gd _ rfl rfl rfl (fun h=>A5 rfl (kn rfl)) (Walk.gd _ rfl rfl rfl (fun h=>A5 rfl (kn rfl)) (Walk.gd _ rfl rfl rfl (fun h=>AW rfl (by kernel_rfl) (hdi) ⟨(A1 rfl h),⟨(A1 rfl h),trivial⟩⟩) (Walk.gd _ rfl rfl rfl (fun h=>A5 rfl (kn rfl)) (Walk.gd _ rfl rfl rfl (fun h=>A3 rfl (A1 rfl h) (A1 rfl h) B2) (A4 rfl rfl rfl (BC rfl (kn rfl) (fun hb=>A1 rfl hb)) (A6 rfl rfl rfl rfl rfl (Walk.gd _ rfl rfl rfl (fun h=>A5 rfl (kn rfl)) (Walk.gd _ rfl rfl rfl (fun h=>A5 rfl (kn rfl)) (Walk.gd _ rfl rfl rfl (fun h=>AW rfl (by kernel_rfl) (hco) ⟨(A1 rfl h),⟨(A1 rfl h),trivial⟩⟩) (Walk.gd _ rfl rfl rfl (fun h=>A5 rfl (kn rfl)) (Walk.gd _ rfl rfl rfl (fun h=>A3 rfl (A1 rfl h) (A1 rfl h) B2) (A4 rfl rfl rfl (BC rfl (kn rfl) (fun hb=>A1 rfl hb)) (A6 rfl rfl rfl rfl rfl (Walk.gd _ rfl rfl rfl (fun h=>A5 rfl (kn rfl)) (Walk.gd _ rfl rfl rfl (fun h=>A5 rfl (kn rfl)) (Walk.gd _ rfl rfl rfl (fun h=>AJ rfl (A1 rfl h) sle_22) (Walk.gd _ rfl rfl rfl (fun h=>A5 rfl (kn rfl)) (Walk.gd _ rfl rfl rfl (fun h=>AJ rfl (A1 rfl h) sle_22) (Walk.gd _ rfl rfl rfl (fun h=>A3 rfl (A1 rfl h) (A1 rfl h) (AA (by first | omega | (dsimp only;omega)))) (Walk.gd _ rfl rfl rfl (fun h=>A5 rfl (kn rfl)) (Walk.gd _ rfl rfl rfl (fun h=>A3 rfl (kn rfl) (A1 rfl h) (GW (by first | omega | (dsimp only;omega)))) (Walk.gd _ rfl rfl rfl (fun h=>A3 rfl (A1 rfl h) (A1 rfl h) (AB (by first | omega | (dsimp only;omega)))) (Walk.gd _ rfl rfl rfl (fun h=>A3 rfl (A1 rfl h) (A1 rfl h) B2) (A4 rfl rfl rfl (BC rfl (kn rfl) (fun hb=>A1 rfl hb)) (A9 rfl rfl rfl rfl rfl .nil))))))))))))))))))))))))))))))))) ?_
 try refine A2 ?_
 have hfin:(true&&decide ((edL a b:Int)=(dA a b 0 (Int.toNat 0):Int))&&decide ((nK l:Int)=(nK l:Int))&&decide ((dA a b 0 (Int.toNat 0):Int)=(a.length:Int)+(b.length:Int)-2*(nK l:Int)))=true:=by
  rw[show dA a b 0 (Int.toNat 0)=edL a b from rfl,decide_eq_true rfl,decide_eq_true rfl,decide_eq_true (show(edL a b:Int)=(a.length:Int)+(b.length:Int)-2*(nK l:Int) by omega)]
  rfl
 exact AI rfl rfl (.tmp (kn rfl) (.nil)) (G8 hfin) rfl
end Go.Proofs.Ytjpghcmlglhmbaa
