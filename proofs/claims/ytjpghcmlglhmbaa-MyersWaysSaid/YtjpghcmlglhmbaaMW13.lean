/- Part 13. Conditions: as each theorem says. -/
import Derived.Test.YtjpghcmlglhmbaaMW12
import Derived.Test.YtjpghcmlglhmbaaProg
set_option maxRecDepth 100000
namespace Go.Proofs.Ytjpghcmlglhmbaa
open Go.RowKit
theorem LM(k:Int):EF Try.prog [] 27 [.one L5,zP k,zP 0] (.part (.one L5)):=by
 refine AL 43 Try.func27 rfl rfl rfl fun w D=>?_
 try refine A1 ?_
 refine A0 (A6 rfl rfl rfl rfl rfl .nil) ?_
 try refine A1 ?_
 refine A0 (A5 rfl rfl rfl rfl rfl (A3 rfl rfl rfl (KK rfl (kn rfl) sle_28) (A3 rfl rfl rfl (A4 rfl (kn rfl) (kn rfl) (AV (by first | omega | (dsimp only;omega)))) (A6 rfl rfl rfl rfl rfl .nil)))) ?_
 try refine A1 ?_
 refine A0 (A5 rfl rfl rfl rfl rfl (A3 rfl rfl rfl (A4 rfl (kn rfl) (kn rfl) B2) (A6 rfl rfl rfl rfl rfl .nil))) ?_
 try refine A1 ?_
 refine AC rfl (fun _=>?_) (fun h=>absurd rfl (of_decide_eq_false h))
 try refine A1 ?_
 refine A0 (A5 rfl rfl rfl rfl rfl (A6 rfl rfl rfl rfl rfl .nil)) ?_
 try refine A1 ?_
 exact AB rfl rfl (.tmp (kn rfl) (.nil)) (Imp.refl _) rfl
theorem ML(k c:Int)(h0:c≠0):EO Try.prog [] 27 [.one L5,zP k,zP c] 45 2 1 [.int .i64 k,.int .i64 c]:=by
 refine HO 43 Try.func27 rfl rfl rfl fun w D=>?_
 try refine A1 ?_
 refine BY 0 1000 45 2 rfl rfl rfl ?_
 refine A0 (A6 rfl rfl rfl rfl rfl .nil) ?_
 try refine A1 ?_
 refine A0 (A5 rfl rfl rfl rfl rfl (A3 rfl rfl rfl (CI rfl (kn rfl) rfl sle_28) (A3 rfl rfl rfl (A4 rfl (kn rfl) (kn rfl) (AV (by first | omega | (dsimp only;omega)))) (A6 rfl rfl rfl rfl rfl .nil)))) ?_
 try refine A1 ?_
 refine A0 (A5 rfl rfl rfl rfl rfl (A3 rfl rfl rfl (A4 rfl (kn rfl) (kn rfl) B2) (A6 rfl rfl rfl rfl rfl .nil))) ?_
 try refine A1 ?_
 refine AC rfl (fun h=>absurd (of_decide_eq_true h) h0) (fun _=>?_)
 try refine A1 ?_
 refine A0 (A5 rfl rfl rfl rfl rfl (A3 rfl rfl rfl (A4 rfl (kn rfl) (kn rfl) ET) (A5 rfl rfl rfl rfl rfl (Walk.gd _ rfl rfl rfl (fun h=>AA rfl (kn rfl)) (Walk.gd _ rfl rfl rfl (fun h=>AA rfl (kn rfl)) (Walk.gd _ rfl rfl rfl (fun h=>BK rfl (A2 rfl h) rfl (A2 rfl h) (absurd h (by decide)) sle_28 esz_28) (Walk.gd _ rfl rfl rfl (fun h=>BJ rfl (A2 rfl h) off_45_0) (Walk.gd _ rfl rfl rfl (fun h=>C5 rfl (A2 rfl h) rfl (show _=some (zC 0) from absurd h (by decide)) one_3) (Walk.gd _ rfl rfl rfl (fun h=>AA rfl (kn rfl)) (Walk.gd _ rfl rfl rfl (fun h=>A4 rfl (A2 rfl h) (A2 rfl h) B2) (A3 rfl rfl rfl (BB rfl (kn rfl) (fun hb=>A2 rfl hb)) (A6 rfl rfl rfl rfl rfl .nil)))))))))))) ?_
 try refine A1 ?_
 refine AC rfl (fun h=>absurd (gl h) (by decide)) (fun _=>?_)
 try refine A1 ?_
 refine AF ?_
 refine AM ?_
 refine AM ?_
 refine AM ?_
 refine AK (CO (ds:=[_,_]) [(0,_),(1,_)] rfl ⟨rfl,(kn rfl),⟨rfl,(kn rfl),trivial⟩⟩ rfl pl_45 zr_45 (fun w D=>.cons (.cell _) (.cons (.cell _) (.nil _ _))) rfl) ?_
 refine AK (AQ (ds:=[_,_]) [(0,_)] rfl ⟨rfl,(kn rfl),trivial⟩ rfl sl_28 sz_45 zr_45 (fun w D=>.cons (.cell _) (.cons (.cell _) (.nil _ _))) rfl rfl rfl rfl rfl) ?_
 refine B4 rfl rfl rfl rfl (kn rfl) rfl (kn rfl) sl_28 ap_28 rfl rfl (by first | omega | (dsimp only;omega)) (by first | omega | (dsimp only;omega)) ?_
 refine B7 ?_
 refine AD ?_
 try refine A1 ?_
 exact E2 rfl rfl rfl rfl (rfl) rfl
theorem CV(l:List Rn)(k c:Int):(B8 l k c).length<=l.length+1:=by
 by_cases h0:c=0
 ·subst h0
  rw[BP]
  omega
 rcases DH l with rfl | ⟨m,k',c',rfl⟩
 ·rw[C3 h0]
  exact Nat.le_refl _
 ·by_cases hk:k'=k
  ·subst hk
   rw[C0 h0]
   simp
  ·rw[D7 h0 hk]
   simp
set_option maxHeartbeats 1000000 in
theorem M4(a b:List Int)(ha:a.length<=1000000)(hb:b.length<=1000000):EF Try.prog [] 23 [.one (zsD a),.one (zsD b)] (.part (.one (BH (AW (apL a b))))):=by
 have hle:=KB a b
 have htl:=NI a b
 have hal:=H2 (a.drop (hd a b)) (b.drop (hd a b)) 0 0 0 (by omega) (by rw[List.length_drop];omega) (by rw[List.length_drop];omega) (by omega) (by omega)
 rw[show(alk (sm (a.drop (hd a b)) (b.drop (hd a b))) (a.drop (hd a b)).length 0 0:Nat)=tlN a b from rfl]at hal
 have hr1:=BT [] 1 (hd a b)
 have hr2:=BT ([]++List.replicate (hd a b) 1) 2 (a.length-tlN a b-hd a b)
 have hr3:=BT ([]++List.replicate (hd a b) 1++List.replicate (a.length-tlN a b-hd a b) 2) 3 (b.length-tlN a b-hd a b)
 have hr4:=BT ([]++List.replicate (hd a b) 1++List.replicate (a.length-tlN a b-hd a b) 2++List.replicate (b.length-tlN a b-hd a b) 3) 1 (tlN a b)
 have hap:apL a b=[]++List.replicate (hd a b) 1++List.replicate (a.length-tlN a b-hd a b) 2++List.replicate (b.length-tlN a b-hd a b) 3++List.replicate (tlN a b) 1:=rfl
 have hlen:=congrArg List.length hap
 simp only[List.length_append,List.length_replicate,List.length_nil]at hlen
 have m1:=D2 ([]++List.replicate (hd a b) 1) (by simp only[List.length_append,List.length_replicate,List.length_nil];omega)
 have m2:=D2 ([]++List.replicate (hd a b) 1++List.replicate (a.length-tlN a b-hd a b) 2) (by simp only[List.length_append,List.length_replicate,List.length_nil];omega)
 have m3:=D2 ([]++List.replicate (hd a b) 1++List.replicate (a.length-tlN a b-hd a b) 2++List.replicate (b.length-tlN a b-hd a b) 3) (by simp only[List.length_append,List.length_replicate,List.length_nil];omega)
 have l1:=CV [] 1 (hd a b:Int)
 have l2:=CV (B8 [] 1 (hd a b:Int)) 2 ((a.length-tlN a b-hd a b:Nat):Int)
 have l3:=CV (B8 (B8 [] 1 (hd a b:Int)) 2 ((a.length-tlN a b-hd a b:Nat):Int)) 3 ((b.length-tlN a b-hd a b:Nat):Int)
 rw[hap]
 rw[hr4,hr3,hr2,hr1]
 rw[hr3,hr2,hr1]at m3
 rw[hr2,hr1]at m2
 rw[hr1]at m1
 rw[show AW []=[] from rfl]at m1 m2 m3 ⊢
 have had1:=CL _ 2 ((a.length-tlN a b-hd a b:Nat):Int) (show(B8 [] 1 (hd a b:Int)).length<=10000000 by simp only[List.length_nil]at l1;omega) m1 (by omega)
 have had2:=CL _ 3 ((b.length-tlN a b-hd a b:Nat):Int) (show(B8 (B8 [] 1 (hd a b:Int)) 2 ((a.length-tlN a b-hd a b:Nat):Int)).length<=10000000 by simp only[List.length_nil]at l1;omega) m2 (by omega)
 have had3:=CL _ 1 (tlN a b:Int) (show(B8 (B8 (B8 [] 1 (hd a b:Int)) 2 ((a.length-tlN a b-hd a b:Nat):Int)) 3 ((b.length-tlN a b-hd a b:Nat):Int)).length<=10000000 by simp only[List.length_nil]at l1;omega) m3 (by omega)
 clear hr1 hr2 hr3 hr4 m1 m2 m3 l1 l2 l3 hap hlen
 refine AL 54 Try.func23 rfl rfl rfl fun w D=>?_
 try refine A1 ?_
 refine A0 (A6 rfl rfl rfl rfl rfl .nil) ?_
 try refine A1 ?_
 refine A0 (A6 rfl rfl rfl rfl rfl .nil) ?_
 try refine A1 ?_
 refine BC (ι:={ k:Nat // k<=hd a b })
  (fun k=>[(0,.part (.one (zsD a))),(1,.part (.one (zsD b))),(5,zI (k.1:Int))])
  (fun _=>[]) (fun _=>[]) (fun k=>hd a b-k.1) ⟨0,Nat.zero_le _⟩
  (fun K=>AH ⟨s_t,s_t,s_t,trivial⟩ trivial trivial) ?_
 rintro⟨k,hk⟩
 dsimp only at hk ⊢
 obtain⟨p,hp⟩:=GA a k
 obtain⟨q,hq⟩:=GA b k
 have pm:decide ((k:Int)<min (a.length:Int) (b.length:Int))=true->k<a.length/\k<b.length:=fun h=>by have:=of_decide_eq_true h;omega
 try refine A1 ?_
 refine CA CB (by kernel_rfl) (A5 rfl rfl rfl rfl rfl (A5 rfl rfl rfl rfl rfl (A3 rfl rfl rfl (AN rfl (kn rfl) sle_22) (A5 rfl rfl rfl rfl rfl (A3 rfl rfl rfl (AN rfl (kn rfl) sle_22) (A3 rfl rfl rfl (O7 rfl (kn rfl) (kn rfl)) (A3 rfl rfl rfl (A4 rfl (kn rfl) (kn rfl) BU) (A5 rfl rfl rfl rfl rfl (Walk.gd _ rfl rfl rfl (fun h=>AA rfl (kn rfl)) (Walk.gd _ rfl rfl rfl (fun h=>AA rfl (kn rfl)) (Walk.gd _ rfl rfl rfl (fun h=>AR rfl (A2 rfl h) (A2 rfl h) (by omega) (hp (pm h).1) AT sle_22 esz_22 rfl) (Walk.gd _ rfl rfl rfl (fun h=>AG rfl (A2 rfl h) one_3) (Walk.gd _ rfl rfl rfl (fun h=>AA rfl (kn rfl)) (Walk.gd _ rfl rfl rfl (fun h=>AA rfl (kn rfl)) (Walk.gd _ rfl rfl rfl (fun h=>AR rfl (A2 rfl h) (A2 rfl h) (by omega) (hq (pm h).2) AT sle_22 esz_22 rfl) (Walk.gd _ rfl rfl rfl (fun h=>AG rfl (A2 rfl h) one_3) (Walk.gd _ rfl rfl rfl (fun h=>A4 rfl (A2 rfl h) (A2 rfl h) B2) (A3 rfl rfl rfl (BB rfl (kn rfl) (fun hb=>A2 rfl hb)) .nil)))))))))))))))))) ?_
 try refine A1 ?_
 refine AC rfl (fun h=>?_) (fun h=>?_)
 ·have hlt:=(LA hk (hp (pm (gl h)).1) (hq (pm (gl h)).2)).1 (of_decide_eq_true (gr h))
  try refine A1 ?_
  refine A0 (A5 rfl rfl rfl rfl rfl (A3 rfl rfl rfl (A4 rfl (kn rfl) (kn rfl) (AE (by first | omega | (dsimp only;omega)))) (A6 rfl rfl rfl rfl rfl .nil))) ?_
  try refine A1 ?_
  refine AO ⟨k+1,hlt⟩ (by dsimp only;omega) (fun K=>AH ⟨s_t,s_t,s_t,trivial⟩ trivial trivial)
 obtain rfl:k=hd a b:=by
  rcases Nat.lt_or_ge k (hd a b)with h1 | h1
  ·have e:=(LA hk (hp (by omega)) (hq (by omega))).2 h1
   rw[decide_eq_true (show(k:Int)<min (a.length:Int) (b.length:Int) by omega),decide_eq_true e]at h
   cases h
  ·omega
 clear h hp hq hk pm
 have hda:(a.drop (hd a b)).length=a.length-hd a b:=List.length_drop
 have hdb:(b.drop (hd a b)).length=b.length-hd a b:=List.length_drop
 try refine A1 ?_
 refine CA CB (by kernel_rfl) (A5 rfl rfl rfl rfl rfl (A5 rfl rfl rfl rfl rfl (A3 rfl rfl rfl (B5 rfl (kn rfl) (kn rfl) (by omega) AT sle_22 esz_22) (A5 rfl rfl rfl rfl rfl (A5 rfl rfl rfl rfl rfl (A3 rfl rfl rfl (B5 rfl (kn rfl) (kn rfl) (by omega) AT sle_22 esz_22) (A6 rfl rfl rfl rfl rfl (A6 rfl rfl rfl rfl rfl .nil)))))))) ?_
 try refine A1 ?_
 refine A0 (A5 rfl rfl rfl rfl rfl (A5 rfl rfl rfl rfl rfl (A3 rfl rfl rfl (AU rfl (by kernel_rfl) (hal) ⟨(kn rfl),⟨(kn rfl),⟨(kn rfl),⟨(kn rfl),trivial⟩⟩⟩⟩) (A6 rfl rfl rfl rfl rfl .nil)))) ?_
 try refine A1 ?_
 refine AH (T':=[(0,.part (.one (zsD (a.drop (hd a b))))),(1,.part (.one (zsD (b.drop (hd a b))))),(5,zI (hd a b:Int)),(6,zI (tlN a b:Int))]) (B':=[]) (R':=[]) ⟨s_t,s_t,s_t,s_t,trivial⟩ trivial trivial ?_
 have hv1:((a.drop (hd a b)).length:Int)-(tlN a b:Int)=((a.length-tlN a b-hd a b:Nat):Int):=by omega
 have hv2:((b.drop (hd a b)).length:Int)-(tlN a b:Int)=((b.length-tlN a b-hd a b:Nat):Int):=by omega
 by_cases h0:hd a b=0
 ·have e0:(hd a b:Int)=0:=by omega
  rw[e0,BP]at had1 had2 had3
  rw[e0,BP]
  refine A0 (A5 rfl rfl rfl rfl rfl (A3 rfl rfl rfl (AU rfl (by kernel_rfl) (LM 1) ⟨(kn rfl),⟨(kn rfl),⟨(kn rfl),trivial⟩⟩⟩) (A6 rfl rfl rfl rfl rfl .nil))) ?_
  try refine A1 ?_
  refine BY 7 1000 45 2 rfl rfl rfl ?_
  refine AF ?_
  refine AM ?_
  refine AM ?_
  refine AK (AN rfl (kn rfl) sle_22) ?_
  refine AM ?_
  refine AK (A4 rfl (kn rfl) (kn rfl) (AV (by first | omega | (dsimp only;omega)))) ?_
  rw[hv1]
  refine BG rfl rfl rfl rfl (by kernel_rfl) (had1) trivial ⟨rfl,trivial⟩ ⟨(kn rfl),⟨(kn rfl),⟨(kn rfl),trivial⟩⟩⟩ (YA.tidy) ?_
  rintro _ _ _ ⟨rfl,rfl,rfl⟩
  refine B7 ?_
  refine AD ?_
  try refine A1 ?_
  refine AF ?_
  refine AM ?_
  refine AM ?_
  refine AK (AN rfl (kn rfl) sle_22) ?_
  refine AM ?_
  refine AK (A4 rfl (kn rfl) (kn rfl) (AV (by first | omega | (dsimp only;omega)))) ?_
  rw[hv2]
  refine BG rfl rfl rfl rfl (by kernel_rfl) (had2) trivial ⟨rfl,trivial⟩ ⟨(kn rfl),⟨(kn rfl),⟨(kn rfl),trivial⟩⟩⟩ (YA.tidy) ?_
  rintro _ _ _ ⟨rfl,rfl,rfl⟩
  refine B7 ?_
  refine AD ?_
  try refine A1 ?_
  refine AF ?_
  refine AM ?_
  refine AM ?_
  refine BG rfl rfl rfl rfl (by kernel_rfl) (had3) trivial ⟨rfl,trivial⟩ ⟨(kn rfl),⟨(kn rfl),⟨(kn rfl),trivial⟩⟩⟩ (YA.tidy) ?_
  rintro _ _ _ ⟨rfl,rfl,rfl⟩
  refine AJ 53 1000 rfl rfl rfl ?_
  refine B7 ?_
  refine AD ?_
  try refine A1 ?_
  exact AB rfl rfl (.tmp (kn rfl) (.nil)) (Imp.refl _) rfl
 ·have h1:(hd a b:Int)≠0:=by omega
  have e1:=C3 (k:=1) h1
  rw[e1]at had1 had2 had3 ⊢
  refine AF ?_
  refine AM ?_
  refine JO 1000 rfl rfl rfl rfl (by kernel_rfl) (ML 1 (hd a b:Int) h1) ⟨kn rfl,kn rfl,kn rfl,trivial⟩ rfl rfl ?_
  refine B7 ?_
  refine AD ?_
  try refine A1 ?_
  refine AF ?_
  refine AM ?_
  refine AM ?_
  refine AK (AN rfl (kn rfl) sle_22) ?_
  refine AM ?_
  refine AK (A4 rfl (kn rfl) (kn rfl) (AV (by first | omega | (dsimp only;omega)))) ?_
  rw[hv1]
  refine BG rfl rfl rfl rfl (by kernel_rfl) (had1) trivial ⟨rfl,trivial⟩ ⟨(kn rfl),⟨(kn rfl),⟨(kn rfl),trivial⟩⟩⟩ (YA.tidy) ?_
  rintro _ _ _ ⟨rfl,rfl,rfl⟩
  refine B7 ?_
  refine AD ?_
  try refine A1 ?_
  refine AF ?_
  refine AM ?_
  refine AM ?_
  refine AK (AN rfl (kn rfl) sle_22) ?_
  refine AM ?_
  refine AK (A4 rfl (kn rfl) (kn rfl) (AV (by first | omega | (dsimp only;omega)))) ?_
  rw[hv2]
  refine BG rfl rfl rfl rfl (by kernel_rfl) (had2) trivial ⟨rfl,trivial⟩ ⟨(kn rfl),⟨(kn rfl),⟨(kn rfl),trivial⟩⟩⟩ (YA.tidy) ?_
  rintro _ _ _ ⟨rfl,rfl,rfl⟩
  refine B7 ?_
  refine AD ?_
  try refine A1 ?_
  refine AF ?_
  refine AM ?_
  refine AM ?_
  refine BG rfl rfl rfl rfl (by kernel_rfl) (had3) trivial ⟨rfl,trivial⟩ ⟨(kn rfl),⟨(kn rfl),⟨(kn rfl),trivial⟩⟩⟩ (YA.tidy) ?_
  rintro _ _ _ ⟨rfl,rfl,rfl⟩
  refine AJ 53 1000 rfl rfl rfl ?_
  refine B7 ?_
  refine AD ?_
  try refine A1 ?_
  exact AB rfl rfl (.tmp (kn rfl) (.nil)) (Imp.refl _) rfl
theorem K7(a b:List Int)(ha:a.length<=1000000)(hb:b.length<=1000000):EF Try.prog [] 11 [.one (zsD a),.one (zsD b)] (.part (.one (BH (AW (GN a b))))):=by
 unfold GN
 by_cases hn:400<edL a b
 ·rw[if_pos hn]
  have hr:=G6 a b ha hb hn
  have he:=M4 a b ha hb
  refine AL 22 Try.func11 rfl rfl rfl fun w D=>?_
  try refine A1 ?_
  refine A0 (A6 rfl rfl rfl rfl rfl .nil) ?_
  try refine A1 ?_
  refine A0 (A5 rfl rfl rfl rfl rfl (A5 rfl rfl rfl rfl rfl (A3 rfl rfl rfl (AU rfl (by kernel_rfl) (hr) ⟨(kn rfl),⟨(kn rfl),trivial⟩⟩) (A5 rfl rfl rfl rfl rfl (A3 rfl rfl rfl (AZ rfl (kn rfl) rfl) (A3 rfl rfl rfl (AZ rfl (kn rfl) rfl) (A6 rfl rfl rfl rfl rfl (A6 rfl rfl rfl rfl rfl .nil)))))))) ?_
  try refine A1 ?_
  refine A0 (A5 rfl rfl rfl rfl rfl (A3 rfl rfl rfl (CX rfl (kn rfl)) .nil)) ?_
  try refine A1 ?_
  refine J9 ?_
  try refine A1 ?_
  refine A0 (A5 rfl rfl rfl rfl rfl (A5 rfl rfl rfl rfl rfl (A3 rfl rfl rfl (AU rfl (by kernel_rfl) (he) ⟨(kn rfl),⟨(kn rfl),trivial⟩⟩) (A6 rfl rfl rfl rfl rfl .nil)))) ?_
  try refine A1 ?_
  exact AB rfl rfl (.tmp (kn rfl) (.nil)) (Imp.refl _) rfl
 ·rw[if_neg hn]
  have hr:=FN a b ha hb (by omega)
  have he:=LE a b ha hb (by omega)
  refine AL 22 Try.func11 rfl rfl rfl fun w D=>?_
  try refine A1 ?_
  refine A0 (A6 rfl rfl rfl rfl rfl .nil) ?_
  try refine A1 ?_
  refine A0 (A5 rfl rfl rfl rfl rfl (A5 rfl rfl rfl rfl rfl (A3 rfl rfl rfl (AU rfl (by kernel_rfl) (hr) ⟨(kn rfl),⟨(kn rfl),trivial⟩⟩) (A5 rfl rfl rfl rfl rfl (A3 rfl rfl rfl (AZ rfl (kn rfl) rfl) (A3 rfl rfl rfl (AZ rfl (kn rfl) rfl) (A6 rfl rfl rfl rfl rfl (A6 rfl rfl rfl rfl rfl .nil)))))))) ?_
  try refine A1 ?_
  refine A0 (A5 rfl rfl rfl rfl rfl (A3 rfl rfl rfl (CX rfl (kn rfl)) .nil)) ?_
  try refine A1 ?_
  refine N2 ?_
  try refine A1 ?_
  refine A0 (A5 rfl rfl rfl rfl rfl (A5 rfl rfl rfl rfl rfl (A5 rfl rfl rfl rfl rfl (A3 rfl rfl rfl (AU rfl (by kernel_rfl) (he) ⟨(kn rfl),⟨(kn rfl),⟨(kn rfl),trivial⟩⟩⟩) (A6 rfl rfl rfl rfl rfl .nil))))) ?_
  try refine A1 ?_
  exact AB rfl rfl (.tmp (kn rfl) (.nil)) (Imp.refl _) rfl
def IN(a b:List Int):Nat:=if 400<edL a b then 401 else edL a b
theorem HN(a b:List Int)(ha:a.length<=1000000)(hb:b.length<=1000000):EF Try.prog [] 13 [.one (zsD a),.one (zsD b)] (.part (zP (IN a b:Int))):=by
 unfold IN
 by_cases hn:400<edL a b
 ·rw[if_pos hn]
  have hr:=G6 a b ha hb hn
  refine AL 17 Try.func13 rfl rfl rfl fun w D=>?_
  try refine A1 ?_
  refine A0 (A6 rfl rfl rfl rfl rfl .nil) ?_
  try refine A1 ?_
  refine A0 (A5 rfl rfl rfl rfl rfl (A5 rfl rfl rfl rfl rfl (A3 rfl rfl rfl (AU rfl (by kernel_rfl) (hr) ⟨(kn rfl),⟨(kn rfl),trivial⟩⟩) (A5 rfl rfl rfl rfl rfl (A3 rfl rfl rfl (AZ rfl (kn rfl) rfl) (A3 rfl rfl rfl (AZ rfl (kn rfl) rfl) (A6 rfl rfl rfl rfl rfl (A6 rfl rfl rfl rfl rfl .nil)))))))) ?_
  try refine A1 ?_
  refine A0 (A5 rfl rfl rfl rfl rfl (A3 rfl rfl rfl (CX rfl (kn rfl)) .nil)) ?_
  try refine A1 ?_
  refine J9 ?_
  try refine A1 ?_
  refine A0 (A6 rfl rfl rfl rfl rfl .nil) ?_
  try refine A1 ?_
  exact AB rfl rfl (.tmp (kn rfl) (.nil)) (Imp.refl _) rfl
 ·rw[if_neg hn]
  have hr:=FN a b ha hb (by omega)
  have hfl:=CU a b (edL a b+1)
  have hdi:=IW (C9 a b (edL a b+1)) (by omega)
  rw[hfl,show(((edL a b+1:Nat)):Int)-1=(edL a b:Int) by omega]at hdi
  refine AL 17 Try.func13 rfl rfl rfl fun w D=>?_
  try refine A1 ?_
  refine A0 (A6 rfl rfl rfl rfl rfl .nil) ?_
  try refine A1 ?_
  refine A0 (A5 rfl rfl rfl rfl rfl (A5 rfl rfl rfl rfl rfl (A3 rfl rfl rfl (AU rfl (by kernel_rfl) (hr) ⟨(kn rfl),⟨(kn rfl),trivial⟩⟩) (A5 rfl rfl rfl rfl rfl (A3 rfl rfl rfl (AZ rfl (kn rfl) rfl) (A3 rfl rfl rfl (AZ rfl (kn rfl) rfl) (A6 rfl rfl rfl rfl rfl (A6 rfl rfl rfl rfl rfl .nil)))))))) ?_
  try refine A1 ?_
  refine A0 (A5 rfl rfl rfl rfl rfl (A3 rfl rfl rfl (CX rfl (kn rfl)) .nil)) ?_
  try refine A1 ?_
  refine N2 ?_
  try refine A1 ?_
  refine A0 (A5 rfl rfl rfl rfl rfl (A3 rfl rfl rfl (AU rfl (by kernel_rfl) (hdi) ⟨(kn rfl),trivial⟩) (A6 rfl rfl rfl rfl rfl .nil))) ?_
  try refine A1 ?_
  exact AB rfl rfl (.tmp (kn rfl) (.nil)) (Imp.refl _) rfl
theorem FI{f:Rn->Int}{r:List Rn}{i:Nat}{p:Rn}(h:r[i]?=some p):E8 f (r.take (i+1))=E8 f (r.take i)+f p:=by
 rw[List.take_add_one,h]
 exact G5 f p _
theorem IY{r:List Rn}{i:Nat}{p:Rn}(h:r[i]?=some p)(t:Td):td t (r.take (i+1))=td1 (td t (r.take i)) p.1 p.2.toNat:=by
 rw[List.take_add_one,h]
 exact MN _ _ _
theorem td1_0(t:Td)(k:Int):td1 t k 0=t:=if_pos rfl
theorem H0(l:List Int):(l.flatMap zD1).all Dat.isOne=true:=by
 simp only[List.all_flatMap,zD1,Dat.isOne,List.all_eq_true]
 intro x _ d hd
 rw[List.mem_singleton.1 hd]
 rfl
abbrev r2(n:Nat):List Int:=List.replicate n 2
abbrev r3(n:Nat):List Int:=List.replicate n 3
theorem IJ(u:Td):u.1.flatMap zD1++(r2 u.2.1).flatMap zD1++(r3 u.2.2).flatMap zD1=(fl u).flatMap zD1:=by
 unfold fl
 rw[List.flatMap_append,List.flatMap_append]
theorem KQ(u:Td):u.1.flatMap zD1++(r2 u.2.1).flatMap zD1++(r3 u.2.2).flatMap zD1++[zC 1]=(fl u++[1]).flatMap zD1:=by
 rw[IJ,GR]
theorem ME(n:Nat):(r2 n).flatMap zD1++[zC 2]=(r2 (n+1)).flatMap zD1:=by rw[GR,<- List.replicate_succ']
theorem LF(n:Nat):(r3 n).flatMap zD1++[zC 3]=(r3 (n+1)).flatMap zD1:=by rw[GR,<- List.replicate_succ']
theorem td1_1(u:Td):td1 u 1 1=(fl u++[1],0,0):=rfl
theorem td1_2(u:Td):td1 u 2 1=(u.1,u.2.1+1,u.2.2):=rfl
theorem td1_3(u:Td):td1 u 3 1=(u.1,u.2.1,u.2.2+1):=rfl
theorem O1(u:Td){k:Int}(h1:k≠1)(h2:k≠2)(h3:k≠3):td1 u k 1=u:=by unfold td1;rw[if_neg (by decide),if_neg h1,if_neg h2,if_neg h3]
abbrev tR(u:Td):RL:=[(1000,⟨3,1,u.1.length,u.1.flatMap zD1,false⟩),(1001,⟨3,1,(r2 u.2.1).length,(r2 u.2.1).flatMap zD1,false⟩),(1002,⟨3,1,(r3 u.2.2).length,(r3 u.2.2).flatMap zD1,false⟩)]
set_option maxHeartbeats 4000000 in
theorem HS(rs:List Rn)(hrs:rs.length<=1000)(hc:∀ p∈rs,p.2<=200):EF Try.prog [] 16 [.one (BH rs)] (.part (.one (BH (DC rs)))):=by
 refine AL 54 Try.func16 rfl rfl rfl fun w D=>?_
 try refine A1 ?_
 refine A0 (A6 rfl rfl rfl rfl rfl .nil) ?_
 try refine A1 ?_
 refine AF ?_
 refine D4 1000 rfl rfl rfl rfl sl_22 ap_22 rfl rfl ?_
 refine B7 ?_
 refine AD ?_
 try refine A1 ?_
 refine AF ?_
 refine D4 1001 rfl rfl rfl rfl sl_22 ap_22 rfl rfl ?_
 refine D4 1002 rfl rfl rfl rfl sl_22 ap_22 rfl rfl ?_
 refine B7 ?_
 refine B7 ?_
 refine AD ?_
 try refine A1 ?_
 refine A0 (A5 rfl rfl rfl rfl rfl (A3 rfl rfl rfl (AN rfl (kn rfl) sle_30) (A5 rfl rfl rfl rfl rfl .nil))) ?_
 try refine A1 ?_
 refine BC (ι:={ i:Nat // i<=rs.length })
  (fun i=>[(3,.own 1000),(4,.own 1001),(5,.own 1002),(12,.part (.one (BH rs))),(13,zI (rs.length:Int)),(14,zI (i.1:Int))])
  (fun _=>[]) (fun i=>tR (td ([],0,0) (rs.take i.1))) (fun i=>rs.length-i.1) ⟨0,Nat.zero_le _⟩
  (fun K=>AH ⟨s_t,s_t,s_t,s_t,s_t,s_t,trivial⟩ trivial ⟨rfl,rfl,rfl,trivial⟩) ?_
 rintro⟨i,hi⟩
 dsimp only at hi ⊢
 have hlen:(fl (td ([],0,0) (rs.take i))).length<=200000:=by
  have:=GW (n:=200) (rs.take i) ([],0,0) fun p hp=>hc p (List.mem_of_mem_take hp)
  rw[List.length_take]at this
  have h0:(fl ([],0,0)).length=0:=rfl
  omega
 try refine A1 ?_
 refine A0 (A3 rfl rfl rfl (A4 rfl (kn rfl) (kn rfl) BU) .nil) ?_
 try refine A1 ?_
 refine AC rfl (fun h=>?_) (fun h=>?_)
 ·have hlt:=ltd h
  obtain⟨⟨k,c⟩,hp⟩:∃ p,rs[i]?=some p:=⟨_,List.getElem?_eq_getElem hlt⟩
  have hnext:=IY hp ([],0,0)
  have hcc:c<=200:=hc _ (List.mem_of_getElem? hp)
  simp only at hnext
  generalize td ([],0,0) (rs.take i)=t at hlen hnext ⊢
  try refine A1 ?_
  refine AF ?_
  refine AK (AR rfl (kn rfl) (kn rfl) (by omega) hp BO sle_30 esz_30 rfl) ?_
  refine AK (B6 rfl (kn rfl) agg_39 sz_39) ?_
  refine CF 7 [.is (.int .i64 0),.is (.int .i64 0)] rfl rfl rfl rfl zr_39 (fun w D M V=>⟨rfl,fun j x v h1 h2=>CH _ h1 h2 rfl⟩) rfl rfl rfl rfl ?_
  refine BV rfl rfl rfl (kn rfl) rfl (kn rfl) rfl rfl sz_39 ?_
  refine AD ?_
  try refine A1 ?_
  refine A0 (A6 rfl rfl rfl rfl rfl .nil) ?_
  try refine A1 ?_
  refine BC (ι:={ j:Nat // j<=c.toNat })
   (fun j=>[(3,.own 1000),(4,.own 1001),(5,.own 1002),(7,.box 7 0),(8,zI (j.1:Int)),(12,.part (.one (BH rs))),(13,zI (rs.length:Int)),(14,zI (i:Int))])
   (fun _=>[(7,⟨39,[zI k,zI c]⟩)]) (fun j=>tR (td1 t k j.1)) (fun j=>c.toNat-j.1) ⟨0,Nat.zero_le _⟩
   (fun K=>AH ⟨s_t,s_t,s_t,s_t,s_t,s_t,s_t,s_t,trivial⟩ ⟨s_b,trivial⟩ ⟨by rw[td1_0];rfl,by rw[td1_0];rfl,by rw[td1_0];rfl,trivial⟩) ?_
  rintro⟨j,hj⟩
  dsimp only at hj ⊢
  have hl2:=J8 t k j
  have hsucc:=KE t k j
  try refine A1 ?_
  refine A0 (A5 rfl rfl rfl rfl rfl (A3 rfl rfl rfl (A8 rfl (kn rfl) off_39_1) (A3 rfl rfl rfl (A7 rfl (kn rfl) rfl rfl one_3) (A3 rfl rfl rfl (A4 rfl (kn rfl) (kn rfl) BU) .nil)))) ?_
  try refine A1 ?_
  refine AC rfl (fun h=>?_) (fun h=>?_)
  ·have hjl:j<c.toNat:=by have:=of_decide_eq_true h;omega
   generalize td1 t k j=u at hl2 hsucc ⊢
   have hfl:=CN u
   have hr2:(r2 u.2.1).length=u.2.1:=List.length_replicate
   have hr3:(r3 u.2.2).length=u.2.2:=List.length_replicate
   try refine A1 ?_
   refine A0 (A3 rfl rfl rfl (A8 rfl (kn rfl) off_39_0) (A3 rfl rfl rfl (A7 rfl (kn rfl) rfl rfl one_3) .nil)) ?_
   try refine A1 ?_
   refine A0 (A3 rfl rfl rfl (A4 rfl (kn rfl) (kn rfl) B2) (A6 rfl rfl rfl rfl rfl .nil)) ?_
   try refine A1 ?_
   refine AC rfl (fun h1=>?_) (fun h1=>?_)
   ·obtain rfl:=of_decide_eq_true h1
    try refine A1 ?_
    refine AJ 4 1001 rfl rfl rfl ?_
    refine AJ 5 1002 rfl rfl rfl ?_
    refine AF ?_
    refine AM ?_
    refine AM ?_
    refine B4 rfl rfl rfl rfl (kn rfl) rfl (kn rfl) sl_22 ap_22 rfl (H0 _) (by first | omega | (dsimp only;omega)) (by first | omega | (dsimp only;omega)) ?_
    refine AM ?_
    refine B4 rfl rfl rfl rfl (kn rfl) rfl (kn rfl) sl_22 ap_22 rfl (H0 _) (by first | omega | (dsimp only;omega)) (by first | omega | (dsimp only;omega)) ?_
    refine AK (AQ (ds:=[_]) [(0,_)] rfl ⟨rfl,(kn rfl),trivial⟩ rfl sl_22 sz_3 zr_3 (fun w D=>.cons (.cell _) (.nil _ _)) rfl rfl rfl rfl rfl) ?_
    refine B4 rfl rfl rfl rfl (kn rfl) rfl (kn rfl) sl_22 ap_22 rfl rfl (by dsimp only;omega) (by dsimp only;omega) ?_
    refine CC (show _=(fl u++[1]).length by dsimp only;simp only[List.length_append,CN,List.length_replicate,List.length_singleton]) (KQ u) ?_
    refine B7 ?_
    refine AD ?_
    try refine A1 ?_
    refine AH (T':=[(3,.own 1000),(7,.box 7 0),(8,zI (j:Int)),(12,.part (.one (BH rs))),(13,zI (rs.length:Int)),(14,zI (i:Int))]) (B':=[(7,⟨39,[zI 1,zI c]⟩)]) (R':=[(1000,⟨3,1,(fl u++[1]).length,(fl u++[1]).flatMap zD1,false⟩)]) ⟨s_t,s_t,s_t,s_t,s_t,s_t,trivial⟩ ⟨s_b,trivial⟩ ⟨rfl,trivial⟩ ?_
    refine AF ?_
    refine D4 1001 rfl rfl rfl rfl sl_22 ap_22 rfl rfl ?_
    refine D4 1002 rfl rfl rfl rfl sl_22 ap_22 rfl rfl ?_
    refine B7 ?_
    refine B7 ?_
    refine AD ?_
    try refine A1 ?_
    refine A0 (A5 rfl rfl rfl rfl rfl (A3 rfl rfl rfl (A4 rfl (kn rfl) (kn rfl) (AE (by first | omega | (dsimp only;omega)))) (A6 rfl rfl rfl rfl rfl .nil))) ?_
    try refine A1 ?_
    refine AO ⟨j+1,by omega⟩ (by dsimp only;omega) (fun K=>AH ⟨s_t,s_t,s_t,s_t,s_t,s_t,s_t,s_t,trivial⟩ ⟨s_b,trivial⟩ ⟨by dsimp only;rw[hsucc,td1_1];rfl,by dsimp only;rw[hsucc,td1_1];rfl,by dsimp only;rw[hsucc,td1_1];rfl,trivial⟩)
   try refine A1 ?_
   refine A0 (A3 rfl rfl rfl (A4 rfl (kn rfl) (kn rfl) B2) (A6 rfl rfl rfl rfl rfl .nil)) ?_
   try refine A1 ?_
   refine AC rfl (fun h2=>?_) (fun h2=>?_)
   ·obtain rfl:=of_decide_eq_true h2
    try refine A1 ?_
    refine AF ?_
    refine AM ?_
    refine AK (AQ (ds:=[_]) [(0,_)] rfl ⟨rfl,(kn rfl),trivial⟩ rfl sl_22 sz_3 zr_3 (fun w D=>.cons (.cell _) (.nil _ _)) rfl rfl rfl rfl rfl) ?_
    refine B4 rfl rfl rfl rfl (kn rfl) rfl (kn rfl) sl_22 ap_22 rfl rfl (by omega) (by omega) ?_
    refine CC (show _=(r2 (u.2.1+1)).length by simp) (ME _) ?_
    refine B7 ?_
    refine AD ?_
    try refine A1 ?_
    refine A0 (A5 rfl rfl rfl rfl rfl (A3 rfl rfl rfl (A4 rfl (kn rfl) (kn rfl) (AE (by first | omega | (dsimp only;omega)))) (A6 rfl rfl rfl rfl rfl .nil))) ?_
    try refine A1 ?_
    refine AO ⟨j+1,by omega⟩ (by dsimp only;omega) (fun K=>AH ⟨s_t,s_t,s_t,s_t,s_t,s_t,s_t,s_t,trivial⟩ ⟨s_b,trivial⟩ ⟨by dsimp only;rw[hsucc,td1_2];rfl,by dsimp only;rw[hsucc,td1_2];rfl,by dsimp only;rw[hsucc,td1_2];rfl,trivial⟩)
   try refine A1 ?_
   refine A0 (A3 rfl rfl rfl (A4 rfl (kn rfl) (kn rfl) B2) (A6 rfl rfl rfl rfl rfl .nil)) ?_
   try refine A1 ?_
   refine AC rfl (fun h3=>?_) (fun h3=>?_)
   ·obtain rfl:=of_decide_eq_true h3
    try refine A1 ?_
    refine AF ?_
    refine AM ?_
    refine AK (AQ (ds:=[_]) [(0,_)] rfl ⟨rfl,(kn rfl),trivial⟩ rfl sl_22 sz_3 zr_3 (fun w D=>.cons (.cell _) (.nil _ _)) rfl rfl rfl rfl rfl) ?_
    refine B4 rfl rfl rfl rfl (kn rfl) rfl (kn rfl) sl_22 ap_22 rfl rfl (by omega) (by omega) ?_
    refine CC (show _=(r3 (u.2.2+1)).length by simp) (LF _) ?_
    refine B7 ?_
    refine AD ?_
    try refine A1 ?_
    refine A0 (A5 rfl rfl rfl rfl rfl (A3 rfl rfl rfl (A4 rfl (kn rfl) (kn rfl) (AE (by first | omega | (dsimp only;omega)))) (A6 rfl rfl rfl rfl rfl .nil))) ?_
    try refine A1 ?_
    refine AO ⟨j+1,by omega⟩ (by dsimp only;omega) (fun K=>AH ⟨s_t,s_t,s_t,s_t,s_t,s_t,s_t,s_t,trivial⟩ ⟨s_b,trivial⟩ ⟨by dsimp only;rw[hsucc,td1_3];rfl,by dsimp only;rw[hsucc,td1_3];rfl,by dsimp only;rw[hsucc,td1_3];rfl,trivial⟩)
   have hx:=O1 u (of_decide_eq_false h1) (of_decide_eq_false h2) (of_decide_eq_false h3)
   try refine A1 ?_
   refine A0 (A5 rfl rfl rfl rfl rfl (A3 rfl rfl rfl (A4 rfl (kn rfl) (kn rfl) (AE (by first | omega | (dsimp only;omega)))) (A6 rfl rfl rfl rfl rfl .nil))) ?_
   try refine A1 ?_
   refine AO ⟨j+1,by omega⟩ (by dsimp only;omega) (fun K=>AH ⟨s_t,s_t,s_t,s_t,s_t,s_t,s_t,s_t,trivial⟩ ⟨s_b,trivial⟩ ⟨by dsimp only;rw[hsucc,hx];rfl,by dsimp only;rw[hsucc,hx];rfl,by dsimp only;rw[hsucc,hx];rfl,trivial⟩)
  obtain rfl:j=c.toNat:=by have:=of_decide_eq_false h;omega
  rw[<- hnext]
  try refine A1 ?_
  refine A0 (A3 rfl rfl rfl (A4 rfl (kn rfl) (kn rfl) (AE (by first | omega | (dsimp only;omega)))) (A5 rfl rfl rfl rfl rfl .nil)) ?_
  try refine A1 ?_
  refine AO ⟨i+1,by omega⟩ (by dsimp only;omega) (fun K=>AH ⟨s_t,s_t,s_t,s_t,s_t,s_t,trivial⟩ trivial ⟨rfl,rfl,rfl,trivial⟩)
 rw[List.take_of_length_le (ltf h)]at hlen ⊢
 have hru:=M0 (fl (td ([],0,0) rs)) (by omega)
 show E _ _ _ _ _
 have htid:DC rs=AW (fl (td ([],0,0) rs)):=rfl
 rw[htid]
 generalize td ([],0,0) rs=u at hlen hru ⊢
 have hfl:=CN u
 have hr2:(r2 u.2.1).length=u.2.1:=List.length_replicate
 have hr3:(r3 u.2.2).length=u.2.2:=List.length_replicate
 try refine A1 ?_
 refine AJ 4 1001 rfl rfl rfl ?_
 refine AJ 5 1002 rfl rfl rfl ?_
 refine AF ?_
 refine AM ?_
 refine AM ?_
 refine B4 rfl rfl rfl rfl (kn rfl) rfl (kn rfl) sl_22 ap_22 rfl (H0 _) (by first | omega | (dsimp only;omega)) (by first | omega | (dsimp only;omega)) ?_
 refine AM ?_
 refine B4 rfl rfl rfl rfl (kn rfl) rfl (kn rfl) sl_22 ap_22 rfl (H0 _) (by dsimp only;omega) (by dsimp only;omega) ?_
 refine CC (show _=(fl u).length by dsimp only;simp only[CN,List.length_replicate]) (IJ u) ?_
 refine AJ 52 1000 rfl rfl rfl ?_
 refine AK (AU rfl (by kernel_rfl) (hru) ⟨(kn rfl),trivial⟩) ?_
 refine B7 ?_
 refine AD ?_
 try refine A1 ?_
 exact AB rfl rfl (.tmp (kn rfl) (.nil)) (Imp.refl _) rfl
end Go.Proofs.Ytjpghcmlglhmbaa
