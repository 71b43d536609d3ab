/- Part 17. Conditions: as each theorem says. -/
import Derived.Test.YtmhhdoaiccahaaaAT16
import Derived.Test.YtmhhdoaiccahaaaProg
set_option maxRecDepth 100000
namespace Go.Proofs.Ytmhhdoaiccahaaa
open Go.RowKit
theorem Q0(k:Int):EF Try.prog [] 20 [.one JB,zP k,zP 0] (.part (.one JB)):=by
 refine AU 43 Try.func20 rfl rfl rfl fun w D=>?_
 try refine A1 ?_
 refine A0 (A7 rfl rfl rfl rfl rfl .nil) ?_
 try refine A1 ?_
 refine A0 (A5 rfl rfl rfl rfl rfl (A3 rfl rfl rfl (P9 rfl (kn rfl) sle_38) (A3 rfl rfl rfl (A4 rfl (kn rfl) (kn rfl) (AN (by first | omega | (dsimp only;omega)))) (A7 rfl rfl rfl rfl rfl .nil)))) ?_
 try refine A1 ?_
 refine A0 (A5 rfl rfl rfl rfl rfl (A3 rfl rfl rfl (A4 rfl (kn rfl) (kn rfl) B4) (A7 rfl rfl rfl rfl rfl .nil))) ?_
 try refine A1 ?_
 refine AC rfl (fun _=>?_) (fun h=>absurd rfl (of_decide_eq_false h))
 try refine A1 ?_
 refine A0 (A5 rfl rfl rfl rfl rfl (A7 rfl rfl rfl rfl rfl .nil)) ?_
 try refine A1 ?_
 exact AM rfl rfl (.tmp (kn rfl) (.nil)) (Imp.refl _) rfl
theorem PM(k c:Int)(h0:c≠0):EO Try.prog [] 20 [.one JB,zP k,zP c] 52 2 1 [.int .i64 k,.int .i64 c]:=by
 refine JE 43 Try.func20 rfl rfl rfl fun w D=>?_
 try refine A1 ?_
 refine BW 0 1000 52 2 rfl rfl rfl ?_
 refine A0 (A7 rfl rfl rfl rfl rfl .nil) ?_
 try refine A1 ?_
 refine A0 (A5 rfl rfl rfl rfl rfl (A3 rfl rfl rfl (C0 rfl (kn rfl) rfl sle_38) (A3 rfl rfl rfl (A4 rfl (kn rfl) (kn rfl) (AN (by first | omega | (dsimp only;omega)))) (A7 rfl rfl rfl rfl rfl .nil)))) ?_
 try refine A1 ?_
 refine A0 (A5 rfl rfl rfl rfl rfl (A3 rfl rfl rfl (A4 rfl (kn rfl) (kn rfl) B4) (A7 rfl rfl rfl rfl rfl .nil))) ?_
 try refine A1 ?_
 refine AC rfl (fun h=>absurd (of_decide_eq_true h) h0) (fun _=>?_)
 try refine A1 ?_
 refine A0 (A5 rfl rfl rfl rfl rfl (A3 rfl rfl rfl (A4 rfl (kn rfl) (kn rfl) EK) (A5 rfl rfl rfl rfl rfl (Walk.gd _ rfl rfl rfl (fun h=>A6 rfl (kn rfl)) (Walk.gd _ rfl rfl rfl (fun h=>A6 rfl (kn rfl)) (Walk.gd _ rfl rfl rfl (fun h=>AK rfl (A2 rfl h) rfl (A2 rfl h) (absurd h (by decide)) sle_38 esz_38) (Walk.gd _ rfl rfl rfl (fun h=>BO rfl (A2 rfl h) off_52_0) (Walk.gd _ rfl rfl rfl (fun h=>AT rfl (A2 rfl h) rfl (show _=some (zC 0) from absurd h (by decide)) one_3) (Walk.gd _ rfl rfl rfl (fun h=>A6 rfl (kn rfl)) (Walk.gd _ rfl rfl rfl (fun h=>A4 rfl (A2 rfl h) (A2 rfl h) B4) (A3 rfl rfl rfl (BH rfl (kn rfl) (fun hb=>A2 rfl hb)) (A7 rfl rfl rfl rfl rfl .nil)))))))))))) ?_
 try refine A1 ?_
 refine AC rfl (fun h=>absurd (gl h) (by decide)) (fun _=>?_)
 try refine A1 ?_
 refine AG ?_
 refine AI ?_
 refine AI ?_
 refine AI ?_
 refine AJ (C4 (ds:=[_,_]) [(0,_),(1,_)] rfl ⟨rfl,(kn rfl),⟨rfl,(kn rfl),trivial⟩⟩ rfl pl_52 zr_52 (fun w D=>.cons (.cell _) (.cons (.cell _) (.nil _ _))) rfl) ?_
 refine AJ (AD (ds:=[_,_]) [(0,_)] rfl ⟨rfl,(kn rfl),trivial⟩ rfl sl_38 sz_52 zr_52 (fun w D=>.cons (.cell _) (.cons (.cell _) (.nil _ _))) rfl rfl rfl rfl rfl) ?_
 refine AW rfl rfl rfl rfl (kn rfl) rfl (kn rfl) sl_38 ap_38 rfl rfl (by first | omega | (dsimp only;omega)) (by first | omega | (dsimp only;omega)) ?_
 refine B5 ?_
 refine AA ?_
 try refine A1 ?_
 exact F4 rfl rfl rfl rfl (rfl) rfl
theorem D8(l:List Rn)(k c:Int):(BD l k c).length<=l.length+1:=by
 by_cases h0:c=0
 ·subst h0
  rw[BY]
  omega
 rcases DY l with rfl | ⟨m,k',c',rfl⟩
 ·rw[CE h0]
  exact Nat.le_refl _
 ·by_cases hk:k'=k
  ·subst hk
   rw[CA h0]
   simp
  ·rw[DN h0 hk]
   simp
set_option maxHeartbeats 1000000 in
theorem QE(a b:List Int)(ha:a.length<=1000000)(hb:b.length<=1000000):EF Try.prog [] 22 [.one (zsD a),.one (zsD b)] (.part (.one (DR (B2 (apL a b))))):=by
 have hle:=JW a b
 have htl:=KR a b
 have hal:=K4 (a.drop (hd a b)) (b.drop (hd a b)) 0 0 0 (by omega) (by rw[List.length_drop];omega) (by rw[List.length_drop];omega) (by omega) (by omega)
 rw[show(alk (sm (a.drop (hd a b)) (b.drop (hd a b))) (a.drop (hd a b)).length 0 0:Nat)=tlN a b from rfl]at hal
 have hr1:=C5 [] 1 (hd a b)
 have hr2:=C5 ([]++List.replicate (hd a b) 1) 2 (a.length-tlN a b-hd a b)
 have hr3:=C5 ([]++List.replicate (hd a b) 1++List.replicate (a.length-tlN a b-hd a b) 2) 3 (b.length-tlN a b-hd a b)
 have hr4:=C5 ([]++List.replicate (hd a b) 1++List.replicate (a.length-tlN a b-hd a b) 2++List.replicate (b.length-tlN a b-hd a b) 3) 1 (tlN a b)
 have hap:apL a b=[]++List.replicate (hd a b) 1++List.replicate (a.length-tlN a b-hd a b) 2++List.replicate (b.length-tlN a b-hd a b) 3++List.replicate (tlN a b) 1:=rfl
 have hlen:=congrArg List.length hap
 simp only[List.length_append,List.length_replicate,List.length_nil]at hlen
 have m1:=DA ([]++List.replicate (hd a b) 1) (by simp only[List.length_append,List.length_replicate,List.length_nil];omega)
 have m2:=DA ([]++List.replicate (hd a b) 1++List.replicate (a.length-tlN a b-hd a b) 2) (by simp only[List.length_append,List.length_replicate,List.length_nil];omega)
 have m3:=DA ([]++List.replicate (hd a b) 1++List.replicate (a.length-tlN a b-hd a b) 2++List.replicate (b.length-tlN a b-hd a b) 3) (by simp only[List.length_append,List.length_replicate,List.length_nil];omega)
 have l1:=D8 [] 1 (hd a b:Int)
 have l2:=D8 (BD [] 1 (hd a b:Int)) 2 ((a.length-tlN a b-hd a b:Nat):Int)
 have l3:=D8 (BD (BD [] 1 (hd a b:Int)) 2 ((a.length-tlN a b-hd a b:Nat):Int)) 3 ((b.length-tlN a b-hd a b:Nat):Int)
 rw[hap]
 rw[hr4,hr3,hr2,hr1]
 rw[hr3,hr2,hr1]at m3
 rw[hr2,hr1]at m2
 rw[hr1]at m1
 rw[show B2 []=[] from rfl]at m1 m2 m3 ⊢
 have had1:=CT _ 2 ((a.length-tlN a b-hd a b:Nat):Int) (show(BD [] 1 (hd a b:Int)).length<=10000000 by simp only[List.length_nil]at l1;omega) m1 (by omega)
 have had2:=CT _ 3 ((b.length-tlN a b-hd a b:Nat):Int) (show(BD (BD [] 1 (hd a b:Int)) 2 ((a.length-tlN a b-hd a b:Nat):Int)).length<=10000000 by simp only[List.length_nil]at l1;omega) m2 (by omega)
 have had3:=CT _ 1 (tlN a b:Int) (show(BD (BD (BD [] 1 (hd a b:Int)) 2 ((a.length-tlN a b-hd a b:Nat):Int)) 3 ((b.length-tlN a b-hd a b:Nat):Int)).length<=10000000 by simp only[List.length_nil]at l1;omega) m3 (by omega)
 clear hr1 hr2 hr3 hr4 m1 m2 m3 l1 l2 l3 hap hlen
 refine AU 54 Try.func22 rfl rfl rfl fun w D=>?_
 try refine A1 ?_
 refine A0 (A7 rfl rfl rfl rfl rfl .nil) ?_
 try refine A1 ?_
 refine A0 (A7 rfl rfl rfl rfl rfl .nil) ?_
 try refine A1 ?_
 refine B7 (ι:={ k:Nat // k<=hd a b })
  (fun k=>[(0,.part (.one (zsD a))),(1,.part (.one (zsD b))),(5,zI (k.1:Int))])
  (fun _=>[]) (fun _=>[]) (fun k=>hd a b-k.1) ⟨0,Nat.zero_le _⟩
  (fun K=>AE ⟨s_t,s_t,s_t,trivial⟩ trivial trivial) ?_
 rintro⟨k,hk⟩
 dsimp only at hk ⊢
 obtain⟨p,hp⟩:=G6 a k
 obtain⟨q,hq⟩:=G6 b k
 have pm:decide ((k:Int)<min (a.length:Int) (b.length:Int))=true->k<a.length/\k<b.length:=fun h=>by have:=of_decide_eq_true h;omega
 try refine A1 ?_
 refine C2 BP (by kernel_rfl) (A5 rfl rfl rfl rfl rfl (A5 rfl rfl rfl rfl rfl (A3 rfl rfl rfl (AO rfl (kn rfl) sle_41) (A5 rfl rfl rfl rfl rfl (A3 rfl rfl rfl (AO rfl (kn rfl) sle_41) (A3 rfl rfl rfl (SZ rfl (kn rfl) (kn rfl)) (A3 rfl rfl rfl (A4 rfl (kn rfl) (kn rfl) B9) (A5 rfl rfl rfl rfl rfl (Walk.gd _ rfl rfl rfl (fun h=>A6 rfl (kn rfl)) (Walk.gd _ rfl rfl rfl (fun h=>A6 rfl (kn rfl)) (Walk.gd _ rfl rfl rfl (fun h=>AH rfl (A2 rfl h) (A2 rfl h) (by omega) (hp (pm h).1) AS sle_41 esz_41 rfl) (Walk.gd _ rfl rfl rfl (fun h=>A8 rfl (A2 rfl h) one_3) (Walk.gd _ rfl rfl rfl (fun h=>A6 rfl (kn rfl)) (Walk.gd _ rfl rfl rfl (fun h=>A6 rfl (kn rfl)) (Walk.gd _ rfl rfl rfl (fun h=>AH rfl (A2 rfl h) (A2 rfl h) (by omega) (hq (pm h).2) AS sle_41 esz_41 rfl) (Walk.gd _ rfl rfl rfl (fun h=>A8 rfl (A2 rfl h) one_3) (Walk.gd _ rfl rfl rfl (fun h=>A4 rfl (A2 rfl h) (A2 rfl h) B4) (A3 rfl rfl rfl (BH rfl (kn rfl) (fun hb=>A2 rfl hb)) .nil)))))))))))))))))) ?_
 try refine A1 ?_
 refine AC rfl (fun h=>?_) (fun h=>?_)
 ·have hlt:=(JG hk (hp (pm (gl h)).1) (hq (pm (gl h)).2)).1 (of_decide_eq_true (gr h))
  try refine A1 ?_
  refine A0 (A5 rfl rfl rfl rfl rfl (A3 rfl rfl rfl (A4 rfl (kn rfl) (kn rfl) (A9 (by first | omega | (dsimp only;omega)))) (A7 rfl rfl rfl rfl rfl .nil))) ?_
  try refine A1 ?_
  refine AF ⟨k+1,hlt⟩ (by dsimp only;omega) (fun K=>AE ⟨s_t,s_t,s_t,trivial⟩ trivial trivial)
 obtain rfl:k=hd a b:=by
  rcases Nat.lt_or_ge k (hd a b)with h1 | h1
  ·have e:=(JG hk (hp (by omega)) (hq (by omega))).2 h1
   rw[decide_eq_true (show(k:Int)<min (a.length:Int) (b.length:Int) by omega),decide_eq_true e]at h
   cases h
  ·omega
 clear h hp hq hk pm
 have hda:(a.drop (hd a b)).length=a.length-hd a b:=List.length_drop
 have hdb:(b.drop (hd a b)).length=b.length-hd a b:=List.length_drop
 try refine A1 ?_
 refine C2 BP (by kernel_rfl) (A5 rfl rfl rfl rfl rfl (A5 rfl rfl rfl rfl rfl (A3 rfl rfl rfl (BM rfl (kn rfl) (kn rfl) (by omega) AS sle_41 esz_41) (A5 rfl rfl rfl rfl rfl (A5 rfl rfl rfl rfl rfl (A3 rfl rfl rfl (BM rfl (kn rfl) (kn rfl) (by omega) AS sle_41 esz_41) (A7 rfl rfl rfl rfl rfl (A7 rfl rfl rfl rfl rfl .nil)))))))) ?_
 try refine A1 ?_
 refine A0 (A5 rfl rfl rfl rfl rfl (A5 rfl rfl rfl rfl rfl (A3 rfl rfl rfl (B6 rfl (by kernel_rfl) (hal) ⟨(kn rfl),⟨(kn rfl),⟨(kn rfl),⟨(kn rfl),trivial⟩⟩⟩⟩) (A7 rfl rfl rfl rfl rfl .nil)))) ?_
 try refine A1 ?_
 refine AE (T':=[(0,.part (.one (zsD (a.drop (hd a b))))),(1,.part (.one (zsD (b.drop (hd a b))))),(5,zI (hd a b:Int)),(6,zI (tlN a b:Int))]) (B':=[]) (R':=[]) ⟨s_t,s_t,s_t,s_t,trivial⟩ trivial trivial ?_
 have hv1:((a.drop (hd a b)).length:Int)-(tlN a b:Int)=((a.length-tlN a b-hd a b:Nat):Int):=by omega
 have hv2:((b.drop (hd a b)).length:Int)-(tlN a b:Int)=((b.length-tlN a b-hd a b:Nat):Int):=by omega
 by_cases h0:hd a b=0
 ·have e0:(hd a b:Int)=0:=by omega
  rw[e0,BY]at had1 had2 had3
  rw[e0,BY]
  refine A0 (A5 rfl rfl rfl rfl rfl (A3 rfl rfl rfl (B6 rfl (by kernel_rfl) (Q0 1) ⟨(kn rfl),⟨(kn rfl),⟨(kn rfl),trivial⟩⟩⟩) (A7 rfl rfl rfl rfl rfl .nil))) ?_
  try refine A1 ?_
  refine BW 7 1000 52 2 rfl rfl rfl ?_
  refine AG ?_
  refine AI ?_
  refine AI ?_
  refine AJ (AO rfl (kn rfl) sle_41) ?_
  refine AI ?_
  refine AJ (A4 rfl (kn rfl) (kn rfl) (AN (by first | omega | (dsimp only;omega)))) ?_
  rw[hv1]
  refine BN rfl rfl rfl rfl (by kernel_rfl) (had1) trivial ⟨rfl,trivial⟩ ⟨(kn rfl),⟨(kn rfl),⟨(kn rfl),trivial⟩⟩⟩ (YA.tidy) ?_
  rintro _ _ _ ⟨rfl,rfl,rfl⟩
  refine B5 ?_
  refine AA ?_
  try refine A1 ?_
  refine AG ?_
  refine AI ?_
  refine AI ?_
  refine AJ (AO rfl (kn rfl) sle_41) ?_
  refine AI ?_
  refine AJ (A4 rfl (kn rfl) (kn rfl) (AN (by first | omega | (dsimp only;omega)))) ?_
  rw[hv2]
  refine BN rfl rfl rfl rfl (by kernel_rfl) (had2) trivial ⟨rfl,trivial⟩ ⟨(kn rfl),⟨(kn rfl),⟨(kn rfl),trivial⟩⟩⟩ (YA.tidy) ?_
  rintro _ _ _ ⟨rfl,rfl,rfl⟩
  refine B5 ?_
  refine AA ?_
  try refine A1 ?_
  refine AG ?_
  refine AI ?_
  refine AI ?_
  refine BN rfl rfl rfl rfl (by kernel_rfl) (had3) trivial ⟨rfl,trivial⟩ ⟨(kn rfl),⟨(kn rfl),⟨(kn rfl),trivial⟩⟩⟩ (YA.tidy) ?_
  rintro _ _ _ ⟨rfl,rfl,rfl⟩
  refine AL 53 1000 rfl rfl rfl ?_
  refine B5 ?_
  refine AA ?_
  try refine A1 ?_
  exact AM rfl rfl (.tmp (kn rfl) (.nil)) (Imp.refl _) rfl
 ·have h1:(hd a b:Int)≠0:=by omega
  have e1:=CE (k:=1) h1
  rw[e1]at had1 had2 had3 ⊢
  refine AG ?_
  refine AI ?_
  refine M7 1000 rfl rfl rfl rfl (by kernel_rfl) (PM 1 (hd a b:Int) h1) ⟨kn rfl,kn rfl,kn rfl,trivial⟩ rfl rfl ?_
  refine B5 ?_
  refine AA ?_
  try refine A1 ?_
  refine AG ?_
  refine AI ?_
  refine AI ?_
  refine AJ (AO rfl (kn rfl) sle_41) ?_
  refine AI ?_
  refine AJ (A4 rfl (kn rfl) (kn rfl) (AN (by first | omega | (dsimp only;omega)))) ?_
  rw[hv1]
  refine BN rfl rfl rfl rfl (by kernel_rfl) (had1) trivial ⟨rfl,trivial⟩ ⟨(kn rfl),⟨(kn rfl),⟨(kn rfl),trivial⟩⟩⟩ (YA.tidy) ?_
  rintro _ _ _ ⟨rfl,rfl,rfl⟩
  refine B5 ?_
  refine AA ?_
  try refine A1 ?_
  refine AG ?_
  refine AI ?_
  refine AI ?_
  refine AJ (AO rfl (kn rfl) sle_41) ?_
  refine AI ?_
  refine AJ (A4 rfl (kn rfl) (kn rfl) (AN (by first | omega | (dsimp only;omega)))) ?_
  rw[hv2]
  refine BN rfl rfl rfl rfl (by kernel_rfl) (had2) trivial ⟨rfl,trivial⟩ ⟨(kn rfl),⟨(kn rfl),⟨(kn rfl),trivial⟩⟩⟩ (YA.tidy) ?_
  rintro _ _ _ ⟨rfl,rfl,rfl⟩
  refine B5 ?_
  refine AA ?_
  try refine A1 ?_
  refine AG ?_
  refine AI ?_
  refine AI ?_
  refine BN rfl rfl rfl rfl (by kernel_rfl) (had3) trivial ⟨rfl,trivial⟩ ⟨(kn rfl),⟨(kn rfl),⟨(kn rfl),trivial⟩⟩⟩ (YA.tidy) ?_
  rintro _ _ _ ⟨rfl,rfl,rfl⟩
  refine AL 53 1000 rfl rfl rfl ?_
  refine B5 ?_
  refine AA ?_
  try refine A1 ?_
  exact AM rfl rfl (.tmp (kn rfl) (.nil)) (Imp.refl _) rfl
theorem N7(a b:List Int)(ha:a.length<=1000000)(hb:b.length<=1000000):EF Try.prog [] 13 [.one (zsD a),.one (zsD b)] (.part (.one (DR (B2 (BC a b))))):=by
 unfold BC
 by_cases hn:400<edL a b
 ·rw[if_pos hn]
  have hr:=MH a b ha hb hn
  have he:=QE a b ha hb
  refine AU 22 Try.func13 rfl rfl rfl fun w D=>?_
  try refine A1 ?_
  refine A0 (A7 rfl rfl rfl rfl rfl .nil) ?_
  try refine A1 ?_
  refine A0 (A5 rfl rfl rfl rfl rfl (A5 rfl rfl rfl rfl rfl (A3 rfl rfl rfl (B6 rfl (by kernel_rfl) (hr) ⟨(kn rfl),⟨(kn rfl),trivial⟩⟩) (A5 rfl rfl rfl rfl rfl (A3 rfl rfl rfl (BZ rfl (kn rfl) rfl) (A3 rfl rfl rfl (BZ rfl (kn rfl) rfl) (A7 rfl rfl rfl rfl rfl (A7 rfl rfl rfl rfl rfl .nil)))))))) ?_
  try refine A1 ?_
  refine A0 (A5 rfl rfl rfl rfl rfl (A3 rfl rfl rfl (H1 rfl (kn rfl)) .nil)) ?_
  try refine A1 ?_
  refine G8 ?_
  try refine A1 ?_
  refine A0 (A5 rfl rfl rfl rfl rfl (A5 rfl rfl rfl rfl rfl (A3 rfl rfl rfl (B6 rfl (by kernel_rfl) (he) ⟨(kn rfl),⟨(kn rfl),trivial⟩⟩) (A7 rfl rfl rfl rfl rfl .nil)))) ?_
  try refine A1 ?_
  exact AM rfl rfl (.tmp (kn rfl) (.nil)) (Imp.refl _) rfl
 ·rw[if_neg hn]
  have hr:=KV a b ha hb (by omega)
  have he:=PW a b ha hb (by omega)
  refine AU 22 Try.func13 rfl rfl rfl fun w D=>?_
  try refine A1 ?_
  refine A0 (A7 rfl rfl rfl rfl rfl .nil) ?_
  try refine A1 ?_
  refine A0 (A5 rfl rfl rfl rfl rfl (A5 rfl rfl rfl rfl rfl (A3 rfl rfl rfl (B6 rfl (by kernel_rfl) (hr) ⟨(kn rfl),⟨(kn rfl),trivial⟩⟩) (A5 rfl rfl rfl rfl rfl (A3 rfl rfl rfl (BZ rfl (kn rfl) rfl) (A3 rfl rfl rfl (BZ rfl (kn rfl) rfl) (A7 rfl rfl rfl rfl rfl (A7 rfl rfl rfl rfl rfl .nil)))))))) ?_
  try refine A1 ?_
  refine A0 (A5 rfl rfl rfl rfl rfl (A3 rfl rfl rfl (H1 rfl (kn rfl)) .nil)) ?_
  try refine A1 ?_
  refine KW ?_
  try refine A1 ?_
  refine A0 (A5 rfl rfl rfl rfl rfl (A5 rfl rfl rfl rfl rfl (A5 rfl rfl rfl rfl rfl (A3 rfl rfl rfl (B6 rfl (by kernel_rfl) (he) ⟨(kn rfl),⟨(kn rfl),⟨(kn rfl),trivial⟩⟩⟩) (A7 rfl rfl rfl rfl rfl .nil))))) ?_
  try refine A1 ?_
  exact AM rfl rfl (.tmp (kn rfl) (.nil)) (Imp.refl _) rfl
theorem LA{r:List Rn}{i:Nat}{p:Rn}(h:r[i]?=some p)(t:Td):td t (r.take (i+1))=td1 (td t (r.take i)) p.1 p.2.toNat:=by
 rw[List.take_add_one,h]
 exact PT _ _ _
theorem td1_0(t:Td)(k:Int):td1 t k 0=t:=if_pos rfl
theorem IG(l:List Int):(l.flatMap zD1).all Dat.isOne=true:=by
 simp only[List.all_flatMap,zD1,Dat.isOne,List.all_eq_true]
 intro x _ d hd
 rw[List.mem_singleton.1 hd]
 rfl
abbrev r2(n:Nat):List Int:=List.replicate n 2
abbrev r3(n:Nat):List Int:=List.replicate n 3
theorem LW(u:Td):u.1.flatMap zD1++(r2 u.2.1).flatMap zD1++(r3 u.2.2).flatMap zD1=(fl u).flatMap zD1:=by
 unfold fl
 rw[List.flatMap_append,List.flatMap_append]
theorem O9(u:Td):u.1.flatMap zD1++(r2 u.2.1).flatMap zD1++(r3 u.2.2).flatMap zD1++[zC 1]=(fl u++[1]).flatMap zD1:=by
 rw[LW,CC]
theorem Q2(n:Nat):(r2 n).flatMap zD1++[zC 2]=(r2 (n+1)).flatMap zD1:=by rw[CC,<- List.replicate_succ']
theorem PU(n:Nat):(r3 n).flatMap zD1++[zC 3]=(r3 (n+1)).flatMap zD1:=by rw[CC,<- List.replicate_succ']
theorem td1_1(u:Td):td1 u 1 1=(fl u++[1],0,0):=rfl
theorem td1_2(u:Td):td1 u 2 1=(u.1,u.2.1+1,u.2.2):=rfl
theorem td1_3(u:Td):td1 u 3 1=(u.1,u.2.1,u.2.2+1):=rfl
theorem SN(u:Td){k:Int}(h1:k≠1)(h2:k≠2)(h3:k≠3):td1 u k 1=u:=by unfold td1;rw[if_neg (by decide),if_neg h1,if_neg h2,if_neg h3]
abbrev tR(u:Td):RL:=[(1000,⟨3,1,u.1.length,u.1.flatMap zD1,false⟩),(1001,⟨3,1,(r2 u.2.1).length,(r2 u.2.1).flatMap zD1,false⟩),(1002,⟨3,1,(r3 u.2.2).length,(r3 u.2.2).flatMap zD1,false⟩)]
set_option maxHeartbeats 4000000 in
theorem KH(rs:List Rn)(hrs:rs.length<=1000)(hc:∀ p∈rs,p.2<=200):EF Try.prog [] 15 [.one (DR rs)] (.part (.one (DR (FI rs)))):=by
 refine AU 54 Try.func15 rfl rfl rfl fun w D=>?_
 try refine A1 ?_
 refine A0 (A7 rfl rfl rfl rfl rfl .nil) ?_
 try refine A1 ?_
 refine AG ?_
 refine C7 1000 rfl rfl rfl rfl sl_41 ap_41 rfl rfl ?_
 refine B5 ?_
 refine AA ?_
 try refine A1 ?_
 refine AG ?_
 refine C7 1001 rfl rfl rfl rfl sl_41 ap_41 rfl rfl ?_
 refine C7 1002 rfl rfl rfl rfl sl_41 ap_41 rfl rfl ?_
 refine B5 ?_
 refine B5 ?_
 refine AA ?_
 try refine A1 ?_
 refine A0 (A5 rfl rfl rfl rfl rfl (A3 rfl rfl rfl (AO rfl (kn rfl) sle_44) (A5 rfl rfl rfl rfl rfl .nil))) ?_
 try refine A1 ?_
 refine B7 (ι:={ i:Nat // i<=rs.length })
  (fun i=>[(3,.own 1000),(4,.own 1001),(5,.own 1002),(12,.part (.one (DR rs))),(13,zI (rs.length:Int)),(14,zI (i.1:Int))])
  (fun _=>[]) (fun i=>tR (td ([],0,0) (rs.take i.1))) (fun i=>rs.length-i.1) ⟨0,Nat.zero_le _⟩
  (fun K=>AE ⟨s_t,s_t,s_t,s_t,s_t,s_t,trivial⟩ trivial ⟨rfl,rfl,rfl,trivial⟩) ?_
 rintro⟨i,hi⟩
 dsimp only at hi ⊢
 have hlen:(fl (td ([],0,0) (rs.take i))).length<=200000:=by
  have:=KT (n:=200) (rs.take i) ([],0,0) fun p hp=>hc p (List.mem_of_mem_take hp)
  rw[List.length_take]at this
  have h0:(fl ([],0,0)).length=0:=rfl
  omega
 try refine A1 ?_
 refine A0 (A3 rfl rfl rfl (A4 rfl (kn rfl) (kn rfl) B9) .nil) ?_
 try refine A1 ?_
 refine AC rfl (fun h=>?_) (fun h=>?_)
 ·have hlt:=ltd h
  obtain⟨⟨k,c⟩,hp⟩:∃ p,rs[i]?=some p:=⟨_,List.getElem?_eq_getElem hlt⟩
  have hnext:=LA hp ([],0,0)
  have hcc:c<=200:=hc _ (List.mem_of_getElem? hp)
  simp only at hnext
  generalize td ([],0,0) (rs.take i)=t at hlen hnext ⊢
  try refine A1 ?_
  refine AG ?_
  refine AJ (AH rfl (kn rfl) (kn rfl) (by omega) hp F2 sle_44 esz_44 rfl) ?_
  refine AJ (BK rfl (kn rfl) agg_49 sz_49) ?_
  refine DM 7 [.is (.int .i64 0),.is (.int .i64 0)] rfl rfl rfl rfl zr_49 (fun w D M V=>⟨rfl,fun j x v h1 h2=>DE _ h1 h2 rfl⟩) rfl rfl rfl rfl ?_
  refine CS rfl rfl rfl (kn rfl) rfl (kn rfl) rfl rfl sz_49 ?_
  refine AA ?_
  try refine A1 ?_
  refine A0 (A7 rfl rfl rfl rfl rfl .nil) ?_
  try refine A1 ?_
  refine B7 (ι:={ j:Nat // j<=c.toNat })
   (fun j=>[(3,.own 1000),(4,.own 1001),(5,.own 1002),(7,.box 7 0),(8,zI (j.1:Int)),(12,.part (.one (DR rs))),(13,zI (rs.length:Int)),(14,zI (i:Int))])
   (fun _=>[(7,⟨49,[zI k,zI c]⟩)]) (fun j=>tR (td1 t k j.1)) (fun j=>c.toNat-j.1) ⟨0,Nat.zero_le _⟩
   (fun K=>AE ⟨s_t,s_t,s_t,s_t,s_t,s_t,s_t,s_t,trivial⟩ ⟨s_b,trivial⟩ ⟨by rw[td1_0];rfl,by rw[td1_0];rfl,by rw[td1_0];rfl,trivial⟩) ?_
  rintro⟨j,hj⟩
  dsimp only at hj ⊢
  have hl2:=IZ t k j
  have hsucc:=O7 t k j
  try refine A1 ?_
  refine A0 (A5 rfl rfl rfl rfl rfl (A3 rfl rfl rfl (AQ rfl (kn rfl) off_49_1) (A3 rfl rfl rfl (AP rfl (kn rfl) rfl rfl one_3) (A3 rfl rfl rfl (A4 rfl (kn rfl) (kn rfl) B9) .nil)))) ?_
  try refine A1 ?_
  refine AC rfl (fun h=>?_) (fun h=>?_)
  ·have hjl:j<c.toNat:=by have:=of_decide_eq_true h;omega
   generalize td1 t k j=u at hl2 hsucc ⊢
   have hfl:=CR u
   have hr2:(r2 u.2.1).length=u.2.1:=List.length_replicate
   have hr3:(r3 u.2.2).length=u.2.2:=List.length_replicate
   try refine A1 ?_
   refine A0 (A3 rfl rfl rfl (AQ rfl (kn rfl) off_49_0) (A3 rfl rfl rfl (AP rfl (kn rfl) rfl rfl one_3) .nil)) ?_
   try refine A1 ?_
   refine A0 (A3 rfl rfl rfl (A4 rfl (kn rfl) (kn rfl) B4) (A7 rfl rfl rfl rfl rfl .nil)) ?_
   try refine A1 ?_
   refine AC rfl (fun h1=>?_) (fun h1=>?_)
   ·obtain rfl:=of_decide_eq_true h1
    try refine A1 ?_
    refine AL 4 1001 rfl rfl rfl ?_
    refine AL 5 1002 rfl rfl rfl ?_
    refine AG ?_
    refine AI ?_
    refine AI ?_
    refine AW rfl rfl rfl rfl (kn rfl) rfl (kn rfl) sl_41 ap_41 rfl (IG _) (by first | omega | (dsimp only;omega)) (by first | omega | (dsimp only;omega)) ?_
    refine AI ?_
    refine AW rfl rfl rfl rfl (kn rfl) rfl (kn rfl) sl_41 ap_41 rfl (IG _) (by first | omega | (dsimp only;omega)) (by first | omega | (dsimp only;omega)) ?_
    refine AJ (AD (ds:=[_]) [(0,_)] rfl ⟨rfl,(kn rfl),trivial⟩ rfl sl_41 sz_3 zr_3 (fun w D=>.cons (.cell _) (.nil _ _)) rfl rfl rfl rfl rfl) ?_
    refine AW rfl rfl rfl rfl (kn rfl) rfl (kn rfl) sl_41 ap_41 rfl rfl (by dsimp only;omega) (by dsimp only;omega) ?_
    refine BG (show _=(fl u++[1]).length by dsimp only;simp only[List.length_append,CR,List.length_replicate,List.length_singleton]) (O9 u) ?_
    refine B5 ?_
    refine AA ?_
    try refine A1 ?_
    refine AE (T':=[(3,.own 1000),(7,.box 7 0),(8,zI (j:Int)),(12,.part (.one (DR rs))),(13,zI (rs.length:Int)),(14,zI (i:Int))]) (B':=[(7,⟨49,[zI 1,zI c]⟩)]) (R':=[(1000,⟨3,1,(fl u++[1]).length,(fl u++[1]).flatMap zD1,false⟩)]) ⟨s_t,s_t,s_t,s_t,s_t,s_t,trivial⟩ ⟨s_b,trivial⟩ ⟨rfl,trivial⟩ ?_
    refine AG ?_
    refine C7 1001 rfl rfl rfl rfl sl_41 ap_41 rfl rfl ?_
    refine C7 1002 rfl rfl rfl rfl sl_41 ap_41 rfl rfl ?_
    refine B5 ?_
    refine B5 ?_
    refine AA ?_
    try refine A1 ?_
    refine A0 (A5 rfl rfl rfl rfl rfl (A3 rfl rfl rfl (A4 rfl (kn rfl) (kn rfl) (A9 (by first | omega | (dsimp only;omega)))) (A7 rfl rfl rfl rfl rfl .nil))) ?_
    try refine A1 ?_
    refine AF ⟨j+1,by omega⟩ (by dsimp only;omega) (fun K=>AE ⟨s_t,s_t,s_t,s_t,s_t,s_t,s_t,s_t,trivial⟩ ⟨s_b,trivial⟩ ⟨by dsimp only;rw[hsucc,td1_1];rfl,by dsimp only;rw[hsucc,td1_1];rfl,by dsimp only;rw[hsucc,td1_1];rfl,trivial⟩)
   try refine A1 ?_
   refine A0 (A3 rfl rfl rfl (A4 rfl (kn rfl) (kn rfl) B4) (A7 rfl rfl rfl rfl rfl .nil)) ?_
   try refine A1 ?_
   refine AC rfl (fun h2=>?_) (fun h2=>?_)
   ·obtain rfl:=of_decide_eq_true h2
    try refine A1 ?_
    refine AG ?_
    refine AI ?_
    refine AJ (AD (ds:=[_]) [(0,_)] rfl ⟨rfl,(kn rfl),trivial⟩ rfl sl_41 sz_3 zr_3 (fun w D=>.cons (.cell _) (.nil _ _)) rfl rfl rfl rfl rfl) ?_
    refine AW rfl rfl rfl rfl (kn rfl) rfl (kn rfl) sl_41 ap_41 rfl rfl (by omega) (by omega) ?_
    refine BG (show _=(r2 (u.2.1+1)).length by simp) (Q2 _) ?_
    refine B5 ?_
    refine AA ?_
    try refine A1 ?_
    refine A0 (A5 rfl rfl rfl rfl rfl (A3 rfl rfl rfl (A4 rfl (kn rfl) (kn rfl) (A9 (by first | omega | (dsimp only;omega)))) (A7 rfl rfl rfl rfl rfl .nil))) ?_
    try refine A1 ?_
    refine AF ⟨j+1,by omega⟩ (by dsimp only;omega) (fun K=>AE ⟨s_t,s_t,s_t,s_t,s_t,s_t,s_t,s_t,trivial⟩ ⟨s_b,trivial⟩ ⟨by dsimp only;rw[hsucc,td1_2];rfl,by dsimp only;rw[hsucc,td1_2];rfl,by dsimp only;rw[hsucc,td1_2];rfl,trivial⟩)
   try refine A1 ?_
   refine A0 (A3 rfl rfl rfl (A4 rfl (kn rfl) (kn rfl) B4) (A7 rfl rfl rfl rfl rfl .nil)) ?_
   try refine A1 ?_
   refine AC rfl (fun h3=>?_) (fun h3=>?_)
   ·obtain rfl:=of_decide_eq_true h3
    try refine A1 ?_
    refine AG ?_
    refine AI ?_
    refine AJ (AD (ds:=[_]) [(0,_)] rfl ⟨rfl,(kn rfl),trivial⟩ rfl sl_41 sz_3 zr_3 (fun w D=>.cons (.cell _) (.nil _ _)) rfl rfl rfl rfl rfl) ?_
    refine AW rfl rfl rfl rfl (kn rfl) rfl (kn rfl) sl_41 ap_41 rfl rfl (by omega) (by omega) ?_
    refine BG (show _=(r3 (u.2.2+1)).length by simp) (PU _) ?_
    refine B5 ?_
    refine AA ?_
    try refine A1 ?_
    refine A0 (A5 rfl rfl rfl rfl rfl (A3 rfl rfl rfl (A4 rfl (kn rfl) (kn rfl) (A9 (by first | omega | (dsimp only;omega)))) (A7 rfl rfl rfl rfl rfl .nil))) ?_
    try refine A1 ?_
    refine AF ⟨j+1,by omega⟩ (by dsimp only;omega) (fun K=>AE ⟨s_t,s_t,s_t,s_t,s_t,s_t,s_t,s_t,trivial⟩ ⟨s_b,trivial⟩ ⟨by dsimp only;rw[hsucc,td1_3];rfl,by dsimp only;rw[hsucc,td1_3];rfl,by dsimp only;rw[hsucc,td1_3];rfl,trivial⟩)
   have hx:=SN u (of_decide_eq_false h1) (of_decide_eq_false h2) (of_decide_eq_false h3)
   try refine A1 ?_
   refine A0 (A5 rfl rfl rfl rfl rfl (A3 rfl rfl rfl (A4 rfl (kn rfl) (kn rfl) (A9 (by first | omega | (dsimp only;omega)))) (A7 rfl rfl rfl rfl rfl .nil))) ?_
   try refine A1 ?_
   refine AF ⟨j+1,by omega⟩ (by dsimp only;omega) (fun K=>AE ⟨s_t,s_t,s_t,s_t,s_t,s_t,s_t,s_t,trivial⟩ ⟨s_b,trivial⟩ ⟨by dsimp only;rw[hsucc,hx];rfl,by dsimp only;rw[hsucc,hx];rfl,by dsimp only;rw[hsucc,hx];rfl,trivial⟩)
  obtain rfl:j=c.toNat:=by have:=of_decide_eq_false h;omega
  rw[<- hnext]
  try refine A1 ?_
  refine A0 (A3 rfl rfl rfl (A4 rfl (kn rfl) (kn rfl) (A9 (by first | omega | (dsimp only;omega)))) (A5 rfl rfl rfl rfl rfl .nil)) ?_
  try refine A1 ?_
  refine AF ⟨i+1,by omega⟩ (by dsimp only;omega) (fun K=>AE ⟨s_t,s_t,s_t,s_t,s_t,s_t,trivial⟩ trivial ⟨rfl,rfl,rfl,trivial⟩)
 rw[List.take_of_length_le (ltf h)]at hlen ⊢
 have hru:=LF (fl (td ([],0,0) rs)) (by omega)
 show E _ _ _ _ _
 have htid:FI rs=B2 (fl (td ([],0,0) rs)):=rfl
 rw[htid]
 generalize td ([],0,0) rs=u at hlen hru ⊢
 have hfl:=CR u
 have hr2:(r2 u.2.1).length=u.2.1:=List.length_replicate
 have hr3:(r3 u.2.2).length=u.2.2:=List.length_replicate
 try refine A1 ?_
 refine AL 4 1001 rfl rfl rfl ?_
 refine AL 5 1002 rfl rfl rfl ?_
 refine AG ?_
 refine AI ?_
 refine AI ?_
 refine AW rfl rfl rfl rfl (kn rfl) rfl (kn rfl) sl_41 ap_41 rfl (IG _) (by first | omega | (dsimp only;omega)) (by first | omega | (dsimp only;omega)) ?_
 refine AI ?_
 refine AW rfl rfl rfl rfl (kn rfl) rfl (kn rfl) sl_41 ap_41 rfl (IG _) (by dsimp only;omega) (by dsimp only;omega) ?_
 refine BG (show _=(fl u).length by dsimp only;simp only[CR,List.length_replicate]) (LW u) ?_
 refine AL 52 1000 rfl rfl rfl ?_
 refine AJ (B6 rfl (by kernel_rfl) (hru) ⟨(kn rfl),trivial⟩) ?_
 refine B5 ?_
 refine AA ?_
 try refine A1 ?_
 exact AM rfl rfl (.tmp (kn rfl) (.nil)) (Imp.refl _) rfl
abbrev rnP(p:Rn):Part:=.many (rnD p)
theorem O2(p:Rn):EF Try.prog [] 19 [rnP p] (.part (bP (DH p))):=by
 obtain⟨k,c⟩:=p
 refine AU 16 Try.func19 rfl rfl rfl fun w D=>?_
 try refine A1 ?_
 refine AG ?_
 refine SX 1 rfl rfl rfl rfl (kn rfl) rfl rfl rfl rfl ?_
 refine B5 ?_
 refine AA ?_
 try refine A1 ?_
 refine A0 (A3 rfl rfl rfl (AQ rfl (kn rfl) off_52_0) (A3 rfl rfl rfl (AP rfl (kn rfl) rfl rfl one_3) (A3 rfl rfl rfl (A4 rfl (kn rfl) (kn rfl) EK) (A5 rfl rfl rfl rfl rfl (Walk.gd _ rfl rfl rfl (fun h=>AQ rfl (kn rfl) off_52_0) (Walk.gd _ rfl rfl rfl (fun h=>AP rfl (A2 rfl h) rfl rfl one_3) (Walk.gd _ rfl rfl rfl (fun h=>A4 rfl (A2 rfl h) (kn rfl) IC) (A3 rfl rfl rfl (BH rfl (kn rfl) (fun hb=>A2 rfl hb)) (A5 rfl rfl rfl rfl rfl (Walk.gd _ rfl rfl rfl (fun h=>AQ rfl (kn rfl) off_52_1) (Walk.gd _ rfl rfl rfl (fun h=>AP rfl (A2 rfl h) rfl rfl one_3) (Walk.gd _ rfl rfl rfl (fun h=>A4 rfl (A2 rfl h) (kn rfl) EK) (A3 rfl rfl rfl (BH rfl (kn rfl) (fun hb=>A2 rfl hb)) (A7 rfl rfl rfl rfl rfl .nil)))))))))))))) ?_
 try refine A1 ?_
 exact AM rfl rfl (.tmp (kn rfl) (.nil)) (Imp.refl _) rfl
end Go.Proofs.Ytmhhdoaiccahaaa
