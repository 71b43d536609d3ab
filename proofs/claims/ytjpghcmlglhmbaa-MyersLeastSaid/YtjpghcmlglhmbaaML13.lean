/- Part 13. Conditions: as each theorem says. -/
import Derived.Test.YtjpghcmlglhmbaaML12
import Derived.Test.YtjpghcmlglhmbaaProg
set_option maxRecDepth 100000
namespace Go.Proofs.Ytjpghcmlglhmbaa
open Go.RowKit
theorem M7(k:Int):EF Try.prog [] 27 [.one K7,zP k,zP 0] (.part (.one K7)):=by
 refine AI 43 Try.func27 rfl rfl rfl fun w D=>?_
 try refine A2 ?_
 refine A0 (A8 rfl rfl rfl rfl rfl .nil) ?_
 try refine A2 ?_
 refine A0 (A5 rfl rfl rfl rfl rfl (A3 rfl rfl rfl (L5 rfl (kn rfl) sle_28) (A3 rfl rfl rfl (A4 rfl (kn rfl) (kn rfl) (AL (by first | omega | (dsimp only;omega)))) (A8 rfl rfl rfl rfl rfl .nil)))) ?_
 try refine A2 ?_
 refine A0 (A5 rfl rfl rfl rfl rfl (A3 rfl rfl rfl (A4 rfl (kn rfl) (kn rfl) B5) (A8 rfl rfl rfl rfl rfl .nil))) ?_
 try refine A2 ?_
 refine AA rfl (fun _=>?_) (fun h=>absurd rfl (of_decide_eq_false h))
 try refine A2 ?_
 refine A0 (A5 rfl rfl rfl rfl rfl (A8 rfl rfl rfl rfl rfl .nil)) ?_
 try refine A2 ?_
 exact A9 rfl rfl (.tmp (kn rfl) (.nil)) (Imp.refl _) rfl
theorem LJ(k c:Int)(h0:c≠0):EO Try.prog [] 27 [.one K7,zP k,zP c] 45 2 1 [.int .i64 k,.int .i64 c]:=by
 refine HC 43 Try.func27 rfl rfl rfl fun w D=>?_
 try refine A2 ?_
 refine C7 0 1000 45 2 rfl rfl rfl ?_
 refine A0 (A8 rfl rfl rfl rfl rfl .nil) ?_
 try refine A2 ?_
 refine A0 (A5 rfl rfl rfl rfl rfl (A3 rfl rfl rfl (CO rfl (kn rfl) rfl sle_28) (A3 rfl rfl rfl (A4 rfl (kn rfl) (kn rfl) (AL (by first | omega | (dsimp only;omega)))) (A8 rfl rfl rfl rfl rfl .nil)))) ?_
 try refine A2 ?_
 refine A0 (A5 rfl rfl rfl rfl rfl (A3 rfl rfl rfl (A4 rfl (kn rfl) (kn rfl) B5) (A8 rfl rfl rfl rfl rfl .nil))) ?_
 try refine A2 ?_
 refine AA rfl (fun h=>absurd (of_decide_eq_true h) h0) (fun _=>?_)
 try refine A2 ?_
 refine A0 (A5 rfl rfl rfl rfl rfl (A3 rfl rfl rfl (A4 rfl (kn rfl) (kn rfl) G0) (A5 rfl rfl rfl rfl rfl (Walk.gd _ rfl rfl rfl (fun h=>A7 rfl (kn rfl)) (Walk.gd _ rfl rfl rfl (fun h=>A7 rfl (kn rfl)) (Walk.gd _ rfl rfl rfl (fun h=>BP rfl (A1 rfl h) rfl (A1 rfl h) (absurd h (by decide)) sle_28 esz_28) (Walk.gd _ rfl rfl rfl (fun h=>BZ rfl (A1 rfl h) off_45_0) (Walk.gd _ rfl rfl rfl (fun h=>CF rfl (A1 rfl h) rfl (show _=some (zC 0) from absurd h (by decide)) one_3) (Walk.gd _ rfl rfl rfl (fun h=>A7 rfl (kn rfl)) (Walk.gd _ rfl rfl rfl (fun h=>A4 rfl (A1 rfl h) (A1 rfl h) B5) (A3 rfl rfl rfl (BC rfl (kn rfl) (fun hb=>A1 rfl hb)) (A8 rfl rfl rfl rfl rfl .nil)))))))))))) ?_
 try refine A2 ?_
 refine AA rfl (fun h=>absurd (gl h) (by decide)) (fun _=>?_)
 try refine A2 ?_
 refine AK ?_
 refine AM ?_
 refine AM ?_
 refine AM ?_
 refine AO (CD (ds:=[_,_]) [(0,_),(1,_)] rfl ⟨rfl,(kn rfl),⟨rfl,(kn rfl),trivial⟩⟩ rfl pl_45 zr_45 (fun w D=>.cons (.cell _) (.cons (.cell _) (.nil _ _))) rfl) ?_
 refine AO (AN (ds:=[_,_]) [(0,_)] rfl ⟨rfl,(kn rfl),trivial⟩ rfl sl_28 sz_45 zr_45 (fun w D=>.cons (.cell _) (.cons (.cell _) (.nil _ _))) rfl rfl rfl rfl rfl) ?_
 refine CA rfl rfl rfl rfl (kn rfl) rfl (kn rfl) sl_28 ap_28 rfl rfl (by first | omega | (dsimp only;omega)) (by first | omega | (dsimp only;omega)) ?_
 refine BA ?_
 refine AB ?_
 try refine A2 ?_
 exact DV rfl rfl rfl rfl (rfl) rfl
theorem E6(l:List Rn)(k c:Int):(BD l k c).length<=l.length+1:=by
 by_cases h0:c=0
 ·subst h0
  rw[B7]
  omega
 rcases D6 l with rfl | ⟨m,k',c',rfl⟩
 ·rw[BV h0]
  exact Nat.le_refl _
 ·by_cases hk:k'=k
  ·subst hk
   rw[C2 h0]
   simp
  ·rw[DE h0 hk]
   simp
set_option maxHeartbeats 1000000 in
theorem LO(a b:List Int)(ha:a.length<=1000000)(hb:b.length<=1000000):EF Try.prog [] 23 [.one (zsD a),.one (zsD b)] (.part (.one (C3 (B4 (apL a b))))):=by
 have hle:=L1 a b
 have htl:=JN a b
 have hal:=HQ (a.drop (hd a b)) (b.drop (hd a b)) 0 0 0 (by omega) (by rw[List.length_drop];omega) (by rw[List.length_drop];omega) (by omega) (by omega)
 rw[show(alk (sm (a.drop (hd a b)) (b.drop (hd a b))) (a.drop (hd a b)).length 0 0:Nat)=tlN a b from rfl]at hal
 have hr1:=CM [] 1 (hd a b)
 have hr2:=CM ([]++List.replicate (hd a b) 1) 2 (a.length-tlN a b-hd a b)
 have hr3:=CM ([]++List.replicate (hd a b) 1++List.replicate (a.length-tlN a b-hd a b) 2) 3 (b.length-tlN a b-hd a b)
 have hr4:=CM ([]++List.replicate (hd a b) 1++List.replicate (a.length-tlN a b-hd a b) 2++List.replicate (b.length-tlN a b-hd a b) 3) 1 (tlN a b)
 have hap:apL a b=[]++List.replicate (hd a b) 1++List.replicate (a.length-tlN a b-hd a b) 2++List.replicate (b.length-tlN a b-hd a b) 3++List.replicate (tlN a b) 1:=rfl
 have hlen:=congrArg List.length hap
 simp only[List.length_append,List.length_replicate,List.length_nil]at hlen
 have m1:=F1 ([]++List.replicate (hd a b) 1) (by simp only[List.length_append,List.length_replicate,List.length_nil];omega)
 have m2:=F1 ([]++List.replicate (hd a b) 1++List.replicate (a.length-tlN a b-hd a b) 2) (by simp only[List.length_append,List.length_replicate,List.length_nil];omega)
 have m3:=F1 ([]++List.replicate (hd a b) 1++List.replicate (a.length-tlN a b-hd a b) 2++List.replicate (b.length-tlN a b-hd a b) 3) (by simp only[List.length_append,List.length_replicate,List.length_nil];omega)
 have l1:=E6 [] 1 (hd a b:Int)
 have l2:=E6 (BD [] 1 (hd a b:Int)) 2 ((a.length-tlN a b-hd a b:Nat):Int)
 have l3:=E6 (BD (BD [] 1 (hd a b:Int)) 2 ((a.length-tlN a b-hd a b:Nat):Int)) 3 ((b.length-tlN a b-hd a b:Nat):Int)
 rw[hap]
 rw[hr4,hr3,hr2,hr1]
 rw[hr3,hr2,hr1]at m3
 rw[hr2,hr1]at m2
 rw[hr1]at m1
 rw[show B4 []=[] from rfl]at m1 m2 m3 ⊢
 have had1:=EB _ 2 ((a.length-tlN a b-hd a b:Nat):Int) (show(BD [] 1 (hd a b:Int)).length<=10000000 by simp only[List.length_nil]at l1;omega) m1 (by omega)
 have had2:=EB _ 3 ((b.length-tlN a b-hd a b:Nat):Int) (show(BD (BD [] 1 (hd a b:Int)) 2 ((a.length-tlN a b-hd a b:Nat):Int)).length<=10000000 by simp only[List.length_nil]at l1;omega) m2 (by omega)
 have had3:=EB _ 1 (tlN a b:Int) (show(BD (BD (BD [] 1 (hd a b:Int)) 2 ((a.length-tlN a b-hd a b:Nat):Int)) 3 ((b.length-tlN a b-hd a b:Nat):Int)).length<=10000000 by simp only[List.length_nil]at l1;omega) m3 (by omega)
 clear hr1 hr2 hr3 hr4 m1 m2 m3 l1 l2 l3 hap hlen
 refine AI 54 Try.func23 rfl rfl rfl fun w D=>?_
 try refine A2 ?_
 refine A0 (A8 rfl rfl rfl rfl rfl .nil) ?_
 try refine A2 ?_
 refine A0 (A8 rfl rfl rfl rfl rfl .nil) ?_
 try refine A2 ?_
 refine BK (ι:={ k:Nat // k<=hd a b })
  (fun k=>[(0,.part (.one (zsD a))),(1,.part (.one (zsD b))),(5,zI (k.1:Int))])
  (fun _=>[]) (fun _=>[]) (fun k=>hd a b-k.1) ⟨0,Nat.zero_le _⟩
  (fun K=>AT ⟨s_t,s_t,s_t,trivial⟩ trivial trivial) ?_
 rintro⟨k,hk⟩
 dsimp only at hk ⊢
 obtain⟨p,hp⟩:=J1 a k
 obtain⟨q,hq⟩:=J1 b k
 have pm:decide ((k:Int)<min (a.length:Int) (b.length:Int))=true->k<a.length/\k<b.length:=fun h=>by have:=of_decide_eq_true h;omega
 try refine A2 ?_
 refine C0 C9 (by kernel_rfl) (A5 rfl rfl rfl rfl rfl (A5 rfl rfl rfl rfl rfl (A3 rfl rfl rfl (AF rfl (kn rfl) sle_22) (A5 rfl rfl rfl rfl rfl (A3 rfl rfl rfl (AF rfl (kn rfl) sle_22) (A3 rfl rfl rfl (NG rfl (kn rfl) (kn rfl)) (A3 rfl rfl rfl (A4 rfl (kn rfl) (kn rfl) CK) (A5 rfl rfl rfl rfl rfl (Walk.gd _ rfl rfl rfl (fun h=>A7 rfl (kn rfl)) (Walk.gd _ rfl rfl rfl (fun h=>A7 rfl (kn rfl)) (Walk.gd _ rfl rfl rfl (fun h=>AQ rfl (A1 rfl h) (A1 rfl h) (by omega) (hp (pm h).1) AR sle_22 esz_22 rfl) (Walk.gd _ rfl rfl rfl (fun h=>AH rfl (A1 rfl h) one_3) (Walk.gd _ rfl rfl rfl (fun h=>A7 rfl (kn rfl)) (Walk.gd _ rfl rfl rfl (fun h=>A7 rfl (kn rfl)) (Walk.gd _ rfl rfl rfl (fun h=>AQ rfl (A1 rfl h) (A1 rfl h) (by omega) (hq (pm h).2) AR sle_22 esz_22 rfl) (Walk.gd _ rfl rfl rfl (fun h=>AH rfl (A1 rfl h) one_3) (Walk.gd _ rfl rfl rfl (fun h=>A4 rfl (A1 rfl h) (A1 rfl h) B5) (A3 rfl rfl rfl (BC rfl (kn rfl) (fun hb=>A1 rfl hb)) .nil)))))))))))))))))) ?_
 try refine A2 ?_
 refine AA rfl (fun h=>?_) (fun h=>?_)
 ·have hlt:=(KT hk (hp (pm (gl h)).1) (hq (pm (gl h)).2)).1 (of_decide_eq_true (gr h))
  try refine A2 ?_
  refine A0 (A5 rfl rfl rfl rfl rfl (A3 rfl rfl rfl (A4 rfl (kn rfl) (kn rfl) (AP (by first | omega | (dsimp only;omega)))) (A8 rfl rfl rfl rfl rfl .nil))) ?_
  try refine A2 ?_
  refine AX ⟨k+1,hlt⟩ (by dsimp only;omega) (fun K=>AT ⟨s_t,s_t,s_t,trivial⟩ trivial trivial)
 obtain rfl:k=hd a b:=by
  rcases Nat.lt_or_ge k (hd a b)with h1 | h1
  ·have e:=(KT hk (hp (by omega)) (hq (by omega))).2 h1
   rw[decide_eq_true (show(k:Int)<min (a.length:Int) (b.length:Int) by omega),decide_eq_true e]at h
   cases h
  ·omega
 clear h hp hq hk pm
 have hda:(a.drop (hd a b)).length=a.length-hd a b:=List.length_drop
 have hdb:(b.drop (hd a b)).length=b.length-hd a b:=List.length_drop
 try refine A2 ?_
 refine C0 C9 (by kernel_rfl) (A5 rfl rfl rfl rfl rfl (A5 rfl rfl rfl rfl rfl (A3 rfl rfl rfl (AW rfl (kn rfl) (kn rfl) (by omega) AR sle_22 esz_22) (A5 rfl rfl rfl rfl rfl (A5 rfl rfl rfl rfl rfl (A3 rfl rfl rfl (AW rfl (kn rfl) (kn rfl) (by omega) AR sle_22 esz_22) (A8 rfl rfl rfl rfl rfl (A8 rfl rfl rfl rfl rfl .nil)))))))) ?_
 try refine A2 ?_
 refine A0 (A5 rfl rfl rfl rfl rfl (A5 rfl rfl rfl rfl rfl (A3 rfl rfl rfl (AJ rfl (by kernel_rfl) (hal) ⟨(kn rfl),⟨(kn rfl),⟨(kn rfl),⟨(kn rfl),trivial⟩⟩⟩⟩) (A8 rfl rfl rfl rfl rfl .nil)))) ?_
 try refine A2 ?_
 refine AT (T':=[(0,.part (.one (zsD (a.drop (hd a b))))),(1,.part (.one (zsD (b.drop (hd a b))))),(5,zI (hd a b:Int)),(6,zI (tlN a b:Int))]) (B':=[]) (R':=[]) ⟨s_t,s_t,s_t,s_t,trivial⟩ trivial trivial ?_
 have hv1:((a.drop (hd a b)).length:Int)-(tlN a b:Int)=((a.length-tlN a b-hd a b:Nat):Int):=by omega
 have hv2:((b.drop (hd a b)).length:Int)-(tlN a b:Int)=((b.length-tlN a b-hd a b:Nat):Int):=by omega
 by_cases h0:hd a b=0
 ·have e0:(hd a b:Int)=0:=by omega
  rw[e0,B7]at had1 had2 had3
  rw[e0,B7]
  refine A0 (A5 rfl rfl rfl rfl rfl (A3 rfl rfl rfl (AJ rfl (by kernel_rfl) (M7 1) ⟨(kn rfl),⟨(kn rfl),⟨(kn rfl),trivial⟩⟩⟩) (A8 rfl rfl rfl rfl rfl .nil))) ?_
  try refine A2 ?_
  refine C7 7 1000 45 2 rfl rfl rfl ?_
  refine AK ?_
  refine AM ?_
  refine AM ?_
  refine AO (AF rfl (kn rfl) sle_22) ?_
  refine AM ?_
  refine AO (A4 rfl (kn rfl) (kn rfl) (AL (by first | omega | (dsimp only;omega)))) ?_
  rw[hv1]
  refine C4 rfl rfl rfl rfl (by kernel_rfl) (had1) trivial ⟨rfl,trivial⟩ ⟨(kn rfl),⟨(kn rfl),⟨(kn rfl),trivial⟩⟩⟩ (YA.tidy) ?_
  rintro _ _ _ ⟨rfl,rfl,rfl⟩
  refine BA ?_
  refine AB ?_
  try refine A2 ?_
  refine AK ?_
  refine AM ?_
  refine AM ?_
  refine AO (AF rfl (kn rfl) sle_22) ?_
  refine AM ?_
  refine AO (A4 rfl (kn rfl) (kn rfl) (AL (by first | omega | (dsimp only;omega)))) ?_
  rw[hv2]
  refine C4 rfl rfl rfl rfl (by kernel_rfl) (had2) trivial ⟨rfl,trivial⟩ ⟨(kn rfl),⟨(kn rfl),⟨(kn rfl),trivial⟩⟩⟩ (YA.tidy) ?_
  rintro _ _ _ ⟨rfl,rfl,rfl⟩
  refine BA ?_
  refine AB ?_
  try refine A2 ?_
  refine AK ?_
  refine AM ?_
  refine AM ?_
  refine C4 rfl rfl rfl rfl (by kernel_rfl) (had3) trivial ⟨rfl,trivial⟩ ⟨(kn rfl),⟨(kn rfl),⟨(kn rfl),trivial⟩⟩⟩ (YA.tidy) ?_
  rintro _ _ _ ⟨rfl,rfl,rfl⟩
  refine AY 53 1000 rfl rfl rfl ?_
  refine BA ?_
  refine AB ?_
  try refine A2 ?_
  exact A9 rfl rfl (.tmp (kn rfl) (.nil)) (Imp.refl _) rfl
 ·have h1:(hd a b:Int)≠0:=by omega
  have e1:=BV (k:=1) h1
  rw[e1]at had1 had2 had3 ⊢
  refine AK ?_
  refine AM ?_
  refine JD 1000 rfl rfl rfl rfl (by kernel_rfl) (LJ 1 (hd a b:Int) h1) ⟨kn rfl,kn rfl,kn rfl,trivial⟩ rfl rfl ?_
  refine BA ?_
  refine AB ?_
  try refine A2 ?_
  refine AK ?_
  refine AM ?_
  refine AM ?_
  refine AO (AF rfl (kn rfl) sle_22) ?_
  refine AM ?_
  refine AO (A4 rfl (kn rfl) (kn rfl) (AL (by first | omega | (dsimp only;omega)))) ?_
  rw[hv1]
  refine C4 rfl rfl rfl rfl (by kernel_rfl) (had1) trivial ⟨rfl,trivial⟩ ⟨(kn rfl),⟨(kn rfl),⟨(kn rfl),trivial⟩⟩⟩ (YA.tidy) ?_
  rintro _ _ _ ⟨rfl,rfl,rfl⟩
  refine BA ?_
  refine AB ?_
  try refine A2 ?_
  refine AK ?_
  refine AM ?_
  refine AM ?_
  refine AO (AF rfl (kn rfl) sle_22) ?_
  refine AM ?_
  refine AO (A4 rfl (kn rfl) (kn rfl) (AL (by first | omega | (dsimp only;omega)))) ?_
  rw[hv2]
  refine C4 rfl rfl rfl rfl (by kernel_rfl) (had2) trivial ⟨rfl,trivial⟩ ⟨(kn rfl),⟨(kn rfl),⟨(kn rfl),trivial⟩⟩⟩ (YA.tidy) ?_
  rintro _ _ _ ⟨rfl,rfl,rfl⟩
  refine BA ?_
  refine AB ?_
  try refine A2 ?_
  refine AK ?_
  refine AM ?_
  refine AM ?_
  refine C4 rfl rfl rfl rfl (by kernel_rfl) (had3) trivial ⟨rfl,trivial⟩ ⟨(kn rfl),⟨(kn rfl),⟨(kn rfl),trivial⟩⟩⟩ (YA.tidy) ?_
  rintro _ _ _ ⟨rfl,rfl,rfl⟩
  refine AY 53 1000 rfl rfl rfl ?_
  refine BA ?_
  refine AB ?_
  try refine A2 ?_
  exact A9 rfl rfl (.tmp (kn rfl) (.nil)) (Imp.refl _) rfl
theorem E9(a b:List Int)(ha:a.length<=1000000)(hb:b.length<=1000000):EF Try.prog [] 11 [.one (zsD a),.one (zsD b)] (.part (.one (C3 (B4 (BR a b))))):=by
 unfold BR
 by_cases hn:400<edL a b
 ·rw[if_pos hn]
  have hr:=GI a b ha hb hn
  have he:=LO a b ha hb
  refine AI 22 Try.func11 rfl rfl rfl fun w D=>?_
  try refine A2 ?_
  refine A0 (A8 rfl rfl rfl rfl rfl .nil) ?_
  try refine A2 ?_
  refine A0 (A5 rfl rfl rfl rfl rfl (A5 rfl rfl rfl rfl rfl (A3 rfl rfl rfl (AJ rfl (by kernel_rfl) (hr) ⟨(kn rfl),⟨(kn rfl),trivial⟩⟩) (A5 rfl rfl rfl rfl rfl (A3 rfl rfl rfl (AV rfl (kn rfl) rfl) (A3 rfl rfl rfl (AV rfl (kn rfl) rfl) (A8 rfl rfl rfl rfl rfl (A8 rfl rfl rfl rfl rfl .nil)))))))) ?_
  try refine A2 ?_
  refine A0 (A5 rfl rfl rfl rfl rfl (A3 rfl rfl rfl (D1 rfl (kn rfl)) .nil)) ?_
  try refine A2 ?_
  refine KY ?_
  try refine A2 ?_
  refine A0 (A5 rfl rfl rfl rfl rfl (A5 rfl rfl rfl rfl rfl (A3 rfl rfl rfl (AJ rfl (by kernel_rfl) (he) ⟨(kn rfl),⟨(kn rfl),trivial⟩⟩) (A8 rfl rfl rfl rfl rfl .nil)))) ?_
  try refine A2 ?_
  exact A9 rfl rfl (.tmp (kn rfl) (.nil)) (Imp.refl _) rfl
 ·rw[if_neg hn]
  have hr:=FD a b ha hb (by omega)
  have he:=M0 a b ha hb (by omega)
  refine AI 22 Try.func11 rfl rfl rfl fun w D=>?_
  try refine A2 ?_
  refine A0 (A8 rfl rfl rfl rfl rfl .nil) ?_
  try refine A2 ?_
  refine A0 (A5 rfl rfl rfl rfl rfl (A5 rfl rfl rfl rfl rfl (A3 rfl rfl rfl (AJ rfl (by kernel_rfl) (hr) ⟨(kn rfl),⟨(kn rfl),trivial⟩⟩) (A5 rfl rfl rfl rfl rfl (A3 rfl rfl rfl (AV rfl (kn rfl) rfl) (A3 rfl rfl rfl (AV rfl (kn rfl) rfl) (A8 rfl rfl rfl rfl rfl (A8 rfl rfl rfl rfl rfl .nil)))))))) ?_
  try refine A2 ?_
  refine A0 (A5 rfl rfl rfl rfl rfl (A3 rfl rfl rfl (D1 rfl (kn rfl)) .nil)) ?_
  try refine A2 ?_
  refine N0 ?_
  try refine A2 ?_
  refine A0 (A5 rfl rfl rfl rfl rfl (A5 rfl rfl rfl rfl rfl (A5 rfl rfl rfl rfl rfl (A3 rfl rfl rfl (AJ rfl (by kernel_rfl) (he) ⟨(kn rfl),⟨(kn rfl),⟨(kn rfl),trivial⟩⟩⟩) (A8 rfl rfl rfl rfl rfl .nil))))) ?_
  try refine A2 ?_
  exact A9 rfl rfl (.tmp (kn rfl) (.nil)) (Imp.refl _) rfl
def H5(a b:List Int):Nat:=if 400<edL a b then 401 else edL a b
theorem D7(a b:List Int)(ha:a.length<=1000000)(hb:b.length<=1000000):EF Try.prog [] 13 [.one (zsD a),.one (zsD b)] (.part (zP (H5 a b:Int))):=by
 unfold H5
 by_cases hn:400<edL a b
 ·rw[if_pos hn]
  have hr:=GI a b ha hb hn
  refine AI 17 Try.func13 rfl rfl rfl fun w D=>?_
  try refine A2 ?_
  refine A0 (A8 rfl rfl rfl rfl rfl .nil) ?_
  try refine A2 ?_
  refine A0 (A5 rfl rfl rfl rfl rfl (A5 rfl rfl rfl rfl rfl (A3 rfl rfl rfl (AJ rfl (by kernel_rfl) (hr) ⟨(kn rfl),⟨(kn rfl),trivial⟩⟩) (A5 rfl rfl rfl rfl rfl (A3 rfl rfl rfl (AV rfl (kn rfl) rfl) (A3 rfl rfl rfl (AV rfl (kn rfl) rfl) (A8 rfl rfl rfl rfl rfl (A8 rfl rfl rfl rfl rfl .nil)))))))) ?_
  try refine A2 ?_
  refine A0 (A5 rfl rfl rfl rfl rfl (A3 rfl rfl rfl (D1 rfl (kn rfl)) .nil)) ?_
  try refine A2 ?_
  refine KY ?_
  try refine A2 ?_
  refine A0 (A8 rfl rfl rfl rfl rfl .nil) ?_
  try refine A2 ?_
  exact A9 rfl rfl (.tmp (kn rfl) (.nil)) (Imp.refl _) rfl
 ·rw[if_neg hn]
  have hr:=FD a b ha hb (by omega)
  have hfl:=CL a b (edL a b+1)
  have hdi:=IL (BU a b (edL a b+1)) (by omega)
  rw[hfl,show(((edL a b+1:Nat)):Int)-1=(edL a b:Int) by omega]at hdi
  refine AI 17 Try.func13 rfl rfl rfl fun w D=>?_
  try refine A2 ?_
  refine A0 (A8 rfl rfl rfl rfl rfl .nil) ?_
  try refine A2 ?_
  refine A0 (A5 rfl rfl rfl rfl rfl (A5 rfl rfl rfl rfl rfl (A3 rfl rfl rfl (AJ rfl (by kernel_rfl) (hr) ⟨(kn rfl),⟨(kn rfl),trivial⟩⟩) (A5 rfl rfl rfl rfl rfl (A3 rfl rfl rfl (AV rfl (kn rfl) rfl) (A3 rfl rfl rfl (AV rfl (kn rfl) rfl) (A8 rfl rfl rfl rfl rfl (A8 rfl rfl rfl rfl rfl .nil)))))))) ?_
  try refine A2 ?_
  refine A0 (A5 rfl rfl rfl rfl rfl (A3 rfl rfl rfl (D1 rfl (kn rfl)) .nil)) ?_
  try refine A2 ?_
  refine N0 ?_
  try refine A2 ?_
  refine A0 (A5 rfl rfl rfl rfl rfl (A3 rfl rfl rfl (AJ rfl (by kernel_rfl) (hdi) ⟨(kn rfl),trivial⟩) (A8 rfl rfl rfl rfl rfl .nil))) ?_
  try refine A2 ?_
  exact A9 rfl rfl (.tmp (kn rfl) (.nil)) (Imp.refl _) rfl
theorem G1{f:Rn->Int}{r:List Rn}{i:Nat}{p:Rn}(h:r[i]?=some p):CB f (r.take (i+1))=CB f (r.take i)+f p:=by
 rw[List.take_add_one,h]
 exact G9 f p _
theorem NW{r:List Rn}(h:OkR r)(i:Nat):0<=CB kpR (r.take i)/\CB kpR (r.take i)<=((ex r).length:Int):=by
 rw[IH _ fun p hp=>h p (List.mem_of_mem_take hp)]
 have h1:nK (ex (r.take i))<=(ex (r.take i)).length:=List.countP_le_length
 have h2:(ex r).length=(ex (r.take i)).length+(ex (r.drop i)).length:=by rw[<- List.length_append,<- DG,List.take_append_drop]
 omega
theorem JJ(a b:List Int)(ha:a.length<=1000000)(hb:b.length<=1000000):EF Try.prog [] 14 [.one (zsD a),.one (zsD b)] (.part (zP (nK (BR a b):Int))):=by
 have hal:=E9 a b ha hb
 have hlen:=IF a b
 obtain⟨hok,hex⟩:=E1 (BR a b)
 have hrl:=D8 (BR a b)
 have hsum:=IH _ hok
 have hle:=NW hok
 rw[hex]at hsum hle
 rw[<- hsum]
 have hmem:∀ p∈B4 (BR a b),p.2<=2000000:=fun p hp=>by have:=E2 hp;omega
 generalize B4 (BR a b)=r at hal hok hrl hle hmem ⊢
 refine AI 25 Try.func14 rfl rfl rfl fun w D=>?_
 try refine A2 ?_
 refine A0 (A8 rfl rfl rfl rfl rfl .nil) ?_
 try refine A2 ?_
 refine A0 (A8 rfl rfl rfl rfl rfl .nil) ?_
 try refine A2 ?_
 refine A0 (A5 rfl rfl rfl rfl rfl (A5 rfl rfl rfl rfl rfl (A3 rfl rfl rfl (AJ rfl (by kernel_rfl) (hal) ⟨(kn rfl),⟨(kn rfl),trivial⟩⟩) (A3 rfl rfl rfl (AF rfl (kn rfl) sle_28) (A5 rfl rfl rfl rfl rfl .nil))))) ?_
 try refine A2 ?_
 refine BK (ι:={ i:Nat // i<=r.length })
  (fun i=>[(5,zI (CB kpR (r.take i.1))),(10,.part (.one (C3 r))),(11,zI (r.length:Int)),(12,zI (i.1:Int))])
  (fun _=>[]) (fun _=>[]) (fun i=>r.length-i.1) ⟨0,Nat.zero_le _⟩
  (fun K=>AT ⟨s_t,s_t,s_t,s_t,trivial⟩ trivial trivial) ?_
 rintro⟨i,hi⟩
 dsimp only at hi ⊢
 have hbd:=hle i
 try refine A2 ?_
 refine A0 (A3 rfl rfl rfl (A4 rfl (kn rfl) (kn rfl) CK) .nil) ?_
 try refine A2 ?_
 refine AA rfl (fun h=>?_) (fun h=>?_)
 ·obtain⟨⟨k,c⟩,hp⟩:∃ p,r[i]?=some p:=⟨_,List.getElem?_eq_getElem (ltd h)⟩
  have hst:=G1 (f:=kpR) hp
  have hc:c<=2000000:=hmem _ (List.mem_of_getElem? hp)
  have hc1:1<=c:=hok _ (List.mem_of_getElem? hp)
  try refine A2 ?_
  refine AK ?_
  refine AO (AQ rfl (kn rfl) (kn rfl) (by omega) hp BM sle_28 esz_28 rfl) ?_
  refine AO (B3 rfl (kn rfl) agg_45 sz_45) ?_
  refine CS 7 [.is (.int .i64 0),.is (.int .i64 0)] rfl rfl rfl rfl zr_45 (fun w D M V=>⟨rfl,fun j x v h1 h2=>CQ _ h1 h2 rfl⟩) rfl rfl rfl rfl ?_
  refine C8 rfl rfl rfl (kn rfl) rfl (kn rfl) rfl rfl sz_45 ?_
  refine AB ?_
  try refine A2 ?_
  refine A0 (A3 rfl rfl rfl (AE rfl (kn rfl) off_45_0) (A3 rfl rfl rfl (AD rfl (kn rfl) rfl rfl one_3) (A3 rfl rfl rfl (A4 rfl (kn rfl) (kn rfl) B5) .nil))) ?_
  try refine A2 ?_
  refine AA rfl (fun h1=>?_) (fun h1=>?_)
  ·have hk:kpR (k,c)=c:=if_pos (of_decide_eq_true h1)
   try refine A2 ?_
   refine A0 (A5 rfl rfl rfl rfl rfl (A3 rfl rfl rfl (AE rfl (kn rfl) off_45_1) (A3 rfl rfl rfl (AD rfl (kn rfl) rfl rfl one_3) (A3 rfl rfl rfl (A4 rfl (kn rfl) (kn rfl) (AP (by first | omega | (dsimp only;omega)))) (A8 rfl rfl rfl rfl rfl .nil))))) ?_
   try refine A2 ?_
   refine A0 (A3 rfl rfl rfl (A4 rfl (kn rfl) (kn rfl) (AP (by first | omega | (dsimp only;omega)))) (A5 rfl rfl rfl rfl rfl .nil)) ?_
   try refine A2 ?_
   refine AX ⟨i+1,by have:=ltd h;omega⟩ (by dsimp only;have:=ltd h;omega) (fun K=>AT ⟨s_z rfl (by dsimp only;rw[hst,hk]),s_t,s_t,s_t,trivial⟩ trivial trivial)
  ·have hk:kpR (k,c)=0:=if_neg (of_decide_eq_false h1)
   try refine A2 ?_
   refine A0 (A3 rfl rfl rfl (A4 rfl (kn rfl) (kn rfl) (AP (by first | omega | (dsimp only;omega)))) (A5 rfl rfl rfl rfl rfl .nil)) ?_
   try refine A2 ?_
   refine AX ⟨i+1,by have:=ltd h;omega⟩ (by dsimp only;have:=ltd h;omega) (fun K=>AT ⟨s_z rfl (by dsimp only;rw[hst,hk,Int.add_zero]),s_t,s_t,s_t,trivial⟩ trivial trivial)
 rw[List.take_of_length_le (ltf h)]
 try refine A2 ?_
 refine A0 (A5 rfl rfl rfl rfl rfl (A8 rfl rfl rfl rfl rfl .nil)) ?_
 try refine A2 ?_
 exact A9 rfl rfl (.tmp (kn rfl) (.nil)) (Imp.refl _) rfl
theorem M2{r:List Rn}{i:Nat}{p:Rn}(h:r[i]?=some p):r.drop i=p::r.drop (i+1):=by
 have hx:i<r.length:=(List.getElem?_eq_some_iff.1 h).1
 rw[List.drop_eq_getElem_cons hx,(List.getElem?_eq_some_iff.1 h).2]
end Go.Proofs.Ytjpghcmlglhmbaa
