/- Part 15. Conditions: as each theorem says. -/
import Derived.Test.YtjpghcmlglhmbaaMF14
import Derived.Test.YtjpghcmlglhmbaaProg
set_option maxRecDepth 100000
namespace Go.Proofs.Ytjpghcmlglhmbaa
open Go.RowKit
theorem L2(k:Int):EF Try.prog [] 27 [.one HG,zP k,zP 0] (.part (.one HG)):=by
 refine AU 43 Try.func27 rfl rfl rfl fun w D=>?_
 try refine A1 ?_
 refine A0 (A9 rfl rfl rfl rfl rfl .nil) ?_
 try refine A1 ?_
 refine A0 (A5 rfl rfl rfl rfl rfl (A4 rfl rfl rfl (K0 rfl (kn rfl) sle_28) (A4 rfl rfl rfl (A3 rfl (kn rfl) (kn rfl) (AE (by first | omega | (dsimp only;omega)))) (A9 rfl rfl rfl rfl rfl .nil)))) ?_
 try refine A1 ?_
 refine A0 (A5 rfl rfl rfl rfl rfl (A4 rfl rfl rfl (A3 rfl (kn rfl) (kn rfl) B9) (A9 rfl rfl rfl rfl rfl .nil))) ?_
 try refine A1 ?_
 refine AC rfl (fun _=>?_) (fun h=>absurd rfl (of_decide_eq_false h))
 try refine A1 ?_
 refine A0 (A5 rfl rfl rfl rfl rfl (A9 rfl rfl rfl rfl rfl .nil)) ?_
 try refine A1 ?_
 exact AJ rfl rfl (.tmp (kn rfl) (.nil)) (Imp.refl _) rfl
theorem LQ(k c:Int)(h0:c≠0):EO Try.prog [] 27 [.one HG,zP k,zP c] 45 2 1 [.int .i64 k,.int .i64 c]:=by
 refine HA 43 Try.func27 rfl rfl rfl fun w D=>?_
 try refine A1 ?_
 refine CA 0 1000 45 2 rfl rfl rfl ?_
 refine A0 (A9 rfl rfl rfl rfl rfl .nil) ?_
 try refine A1 ?_
 refine A0 (A5 rfl rfl rfl rfl rfl (A4 rfl rfl rfl (BI rfl (kn rfl) rfl sle_28) (A4 rfl rfl rfl (A3 rfl (kn rfl) (kn rfl) (AE (by first | omega | (dsimp only;omega)))) (A9 rfl rfl rfl rfl rfl .nil)))) ?_
 try refine A1 ?_
 refine A0 (A5 rfl rfl rfl rfl rfl (A4 rfl rfl rfl (A3 rfl (kn rfl) (kn rfl) B9) (A9 rfl rfl rfl rfl rfl .nil))) ?_
 try refine A1 ?_
 refine AC rfl (fun h=>absurd (of_decide_eq_true h) h0) (fun _=>?_)
 try refine A1 ?_
 refine A0 (A5 rfl rfl rfl rfl rfl (A4 rfl rfl rfl (A3 rfl (kn rfl) (kn rfl) GE) (A5 rfl rfl rfl rfl rfl (Walk.gd _ rfl rfl rfl (fun h=>A6 rfl (kn rfl)) (Walk.gd _ rfl rfl rfl (fun h=>A6 rfl (kn rfl)) (Walk.gd _ rfl rfl rfl (fun h=>AD rfl (A2 rfl h) rfl (A2 rfl h) (absurd h (by decide)) sle_28 esz_28) (Walk.gd _ rfl rfl rfl (fun h=>BC rfl (A2 rfl h) off_45_0) (Walk.gd _ rfl rfl rfl (fun h=>AQ rfl (A2 rfl h) rfl (show _=some (zC 0) from absurd h (by decide)) one_3) (Walk.gd _ rfl rfl rfl (fun h=>A6 rfl (kn rfl)) (Walk.gd _ rfl rfl rfl (fun h=>A3 rfl (A2 rfl h) (A2 rfl h) B9) (A4 rfl rfl rfl (BE rfl (kn rfl) (fun hb=>A2 rfl hb)) (A9 rfl rfl rfl rfl rfl .nil)))))))))))) ?_
 try refine A1 ?_
 refine AC rfl (fun h=>absurd (gl h) (by decide)) (fun _=>?_)
 try refine A1 ?_
 refine AL ?_
 refine AI ?_
 refine AI ?_
 refine AI ?_
 refine AM (CE (ds:=[_,_]) [(0,_),(1,_)] rfl ⟨rfl,(kn rfl),⟨rfl,(kn rfl),trivial⟩⟩ rfl pl_45 zr_45 (fun w D=>.cons (.cell _) (.cons (.cell _) (.nil _ _))) rfl) ?_
 refine AM (AF (ds:=[_,_]) [(0,_)] rfl ⟨rfl,(kn rfl),trivial⟩ rfl sl_28 sz_45 zr_45 (fun w D=>.cons (.cell _) (.cons (.cell _) (.nil _ _))) rfl rfl rfl rfl rfl) ?_
 refine AY rfl rfl rfl rfl (kn rfl) rfl (kn rfl) sl_28 ap_28 rfl rfl (by first | omega | (dsimp only;omega)) (by first | omega | (dsimp only;omega)) ?_
 refine B3 ?_
 refine AB ?_
 try refine A1 ?_
 exact E1 rfl rfl rfl rfl (rfl) rfl
theorem FW(l:List Rn)(k c:Int):(BM l k c).length<=l.length+1:=by
 by_cases h0:c=0
 ·subst h0
  rw[BJ]
  omega
 rcases D9 l with rfl | ⟨m,k',c',rfl⟩
 ·rw[C3 h0]
  exact Nat.le_refl _
 ·by_cases hk:k'=k
  ·subst hk
   rw[BW h0]
   simp
  ·rw[CV h0 hk]
   simp
set_option maxHeartbeats 1000000 in
theorem LF(a b:List Int)(ha:a.length<=1000000)(hb:b.length<=1000000):EF Try.prog [] 23 [.one (zsD a),.one (zsD b)] (.part (.one (HI (B7 (apL a b))))):=by
 have hle:=H2 a b
 have htl:=HQ a b
 have hal:=GV (a.drop (hd a b)) (b.drop (hd a b)) 0 0 0 (by omega) (by rw[List.length_drop];omega) (by rw[List.length_drop];omega) (by omega) (by omega)
 rw[show(alk (sm (a.drop (hd a b)) (b.drop (hd a b))) (a.drop (hd a b)).length 0 0:Nat)=tlN a b from rfl]at hal
 have hr1:=D7 [] 1 (hd a b)
 have hr2:=D7 ([]++List.replicate (hd a b) 1) 2 (a.length-tlN a b-hd a b)
 have hr3:=D7 ([]++List.replicate (hd a b) 1++List.replicate (a.length-tlN a b-hd a b) 2) 3 (b.length-tlN a b-hd a b)
 have hr4:=D7 ([]++List.replicate (hd a b) 1++List.replicate (a.length-tlN a b-hd a b) 2++List.replicate (b.length-tlN a b-hd a b) 3) 1 (tlN a b)
 have hap:apL a b=[]++List.replicate (hd a b) 1++List.replicate (a.length-tlN a b-hd a b) 2++List.replicate (b.length-tlN a b-hd a b) 3++List.replicate (tlN a b) 1:=rfl
 have hlen:=congrArg List.length hap
 simp only[List.length_append,List.length_replicate,List.length_nil]at hlen
 have m1:=EZ ([]++List.replicate (hd a b) 1) (by simp only[List.length_append,List.length_replicate,List.length_nil];omega)
 have m2:=EZ ([]++List.replicate (hd a b) 1++List.replicate (a.length-tlN a b-hd a b) 2) (by simp only[List.length_append,List.length_replicate,List.length_nil];omega)
 have m3:=EZ ([]++List.replicate (hd a b) 1++List.replicate (a.length-tlN a b-hd a b) 2++List.replicate (b.length-tlN a b-hd a b) 3) (by simp only[List.length_append,List.length_replicate,List.length_nil];omega)
 have l1:=FW [] 1 (hd a b:Int)
 have l2:=FW (BM [] 1 (hd a b:Int)) 2 ((a.length-tlN a b-hd a b:Nat):Int)
 have l3:=FW (BM (BM [] 1 (hd a b:Int)) 2 ((a.length-tlN a b-hd a b:Nat):Int)) 3 ((b.length-tlN a b-hd a b:Nat):Int)
 rw[hap]
 rw[hr4,hr3,hr2,hr1]
 rw[hr3,hr2,hr1]at m3
 rw[hr2,hr1]at m2
 rw[hr1]at m1
 rw[show B7 []=[] from rfl]at m1 m2 m3 ⊢
 have had1:=EA _ 2 ((a.length-tlN a b-hd a b:Nat):Int) (show(BM [] 1 (hd a b:Int)).length<=10000000 by simp only[List.length_nil]at l1;omega) m1 (by omega)
 have had2:=EA _ 3 ((b.length-tlN a b-hd a b:Nat):Int) (show(BM (BM [] 1 (hd a b:Int)) 2 ((a.length-tlN a b-hd a b:Nat):Int)).length<=10000000 by simp only[List.length_nil]at l1;omega) m2 (by omega)
 have had3:=EA _ 1 (tlN a b:Int) (show(BM (BM (BM [] 1 (hd a b:Int)) 2 ((a.length-tlN a b-hd a b:Nat):Int)) 3 ((b.length-tlN a b-hd a b:Nat):Int)).length<=10000000 by simp only[List.length_nil]at l1;omega) m3 (by omega)
 clear hr1 hr2 hr3 hr4 m1 m2 m3 l1 l2 l3 hap hlen
 refine AU 54 Try.func23 rfl rfl rfl fun w D=>?_
 try refine A1 ?_
 refine A0 (A9 rfl rfl rfl rfl rfl .nil) ?_
 try refine A1 ?_
 refine A0 (A9 rfl rfl rfl rfl rfl .nil) ?_
 try refine A1 ?_
 refine B8 (ι:={ k:Nat // k<=hd a b })
  (fun k=>[(0,.part (.one (zsD a))),(1,.part (.one (zsD b))),(5,zI (k.1:Int))])
  (fun _=>[]) (fun _=>[]) (fun k=>hd a b-k.1) ⟨0,Nat.zero_le _⟩
  (fun K=>AN ⟨s_t,s_t,s_t,trivial⟩ trivial trivial) ?_
 rintro⟨k,hk⟩
 dsimp only at hk ⊢
 obtain⟨p,hp⟩:=ES a k
 obtain⟨q,hq⟩:=ES b k
 have pm:decide ((k:Int)<min (a.length:Int) (b.length:Int))=true->k<a.length/\k<b.length:=fun h=>by have:=of_decide_eq_true h;omega
 try refine A1 ?_
 refine C8 BR (by kernel_rfl) (A5 rfl rfl rfl rfl rfl (A5 rfl rfl rfl rfl rfl (A4 rfl rfl rfl (AP rfl (kn rfl) sle_22) (A5 rfl rfl rfl rfl rfl (A4 rfl rfl rfl (AP rfl (kn rfl) sle_22) (A4 rfl rfl rfl (MI rfl (kn rfl) (kn rfl)) (A4 rfl rfl rfl (A3 rfl (kn rfl) (kn rfl) BF) (A5 rfl rfl rfl rfl rfl (Walk.gd _ rfl rfl rfl (fun h=>A6 rfl (kn rfl)) (Walk.gd _ rfl rfl rfl (fun h=>A6 rfl (kn rfl)) (Walk.gd _ rfl rfl rfl (fun h=>AG rfl (A2 rfl h) (A2 rfl h) (by omega) (hp (pm h).1) AH sle_22 esz_22 rfl) (Walk.gd _ rfl rfl rfl (fun h=>A7 rfl (A2 rfl h) one_3) (Walk.gd _ rfl rfl rfl (fun h=>A6 rfl (kn rfl)) (Walk.gd _ rfl rfl rfl (fun h=>A6 rfl (kn rfl)) (Walk.gd _ rfl rfl rfl (fun h=>AG rfl (A2 rfl h) (A2 rfl h) (by omega) (hq (pm h).2) AH sle_22 esz_22 rfl) (Walk.gd _ rfl rfl rfl (fun h=>A7 rfl (A2 rfl h) one_3) (Walk.gd _ rfl rfl rfl (fun h=>A3 rfl (A2 rfl h) (A2 rfl h) B9) (A4 rfl rfl rfl (BE rfl (kn rfl) (fun hb=>A2 rfl hb)) .nil)))))))))))))))))) ?_
 try refine A1 ?_
 refine AC rfl (fun h=>?_) (fun h=>?_)
 ·have hlt:=(GT hk (hp (pm (gl h)).1) (hq (pm (gl h)).2)).1 (of_decide_eq_true (gr h))
  try refine A1 ?_
  refine A0 (A5 rfl rfl rfl rfl rfl (A4 rfl rfl rfl (A3 rfl (kn rfl) (kn rfl) (AA (by first | omega | (dsimp only;omega)))) (A9 rfl rfl rfl rfl rfl .nil))) ?_
  try refine A1 ?_
  refine AR ⟨k+1,hlt⟩ (by dsimp only;omega) (fun K=>AN ⟨s_t,s_t,s_t,trivial⟩ trivial trivial)
 obtain rfl:k=hd a b:=by
  rcases Nat.lt_or_ge k (hd a b)with h1 | h1
  ·have e:=(GT hk (hp (by omega)) (hq (by omega))).2 h1
   rw[decide_eq_true (show(k:Int)<min (a.length:Int) (b.length:Int) by omega),decide_eq_true e]at h
   cases h
  ·omega
 clear h hp hq hk pm
 have hda:(a.drop (hd a b)).length=a.length-hd a b:=List.length_drop
 have hdb:(b.drop (hd a b)).length=b.length-hd a b:=List.length_drop
 try refine A1 ?_
 refine C8 BR (by kernel_rfl) (A5 rfl rfl rfl rfl rfl (A5 rfl rfl rfl rfl rfl (A4 rfl rfl rfl (BA rfl (kn rfl) (kn rfl) (by omega) AH sle_22 esz_22) (A5 rfl rfl rfl rfl rfl (A5 rfl rfl rfl rfl rfl (A4 rfl rfl rfl (BA rfl (kn rfl) (kn rfl) (by omega) AH sle_22 esz_22) (A9 rfl rfl rfl rfl rfl (A9 rfl rfl rfl rfl rfl .nil)))))))) ?_
 try refine A1 ?_
 refine A0 (A5 rfl rfl rfl rfl rfl (A5 rfl rfl rfl rfl rfl (A4 rfl rfl rfl (AX rfl (by kernel_rfl) (hal) ⟨(kn rfl),⟨(kn rfl),⟨(kn rfl),⟨(kn rfl),trivial⟩⟩⟩⟩) (A9 rfl rfl rfl rfl rfl .nil)))) ?_
 try refine A1 ?_
 refine AN (T':=[(0,.part (.one (zsD (a.drop (hd a b))))),(1,.part (.one (zsD (b.drop (hd a b))))),(5,zI (hd a b:Int)),(6,zI (tlN a b:Int))]) (B':=[]) (R':=[]) ⟨s_t,s_t,s_t,s_t,trivial⟩ trivial trivial ?_
 have hv1:((a.drop (hd a b)).length:Int)-(tlN a b:Int)=((a.length-tlN a b-hd a b:Nat):Int):=by omega
 have hv2:((b.drop (hd a b)).length:Int)-(tlN a b:Int)=((b.length-tlN a b-hd a b:Nat):Int):=by omega
 by_cases h0:hd a b=0
 ·have e0:(hd a b:Int)=0:=by omega
  rw[e0,BJ]at had1 had2 had3
  rw[e0,BJ]
  refine A0 (A5 rfl rfl rfl rfl rfl (A4 rfl rfl rfl (AX rfl (by kernel_rfl) (L2 1) ⟨(kn rfl),⟨(kn rfl),⟨(kn rfl),trivial⟩⟩⟩) (A9 rfl rfl rfl rfl rfl .nil))) ?_
  try refine A1 ?_
  refine CA 7 1000 45 2 rfl rfl rfl ?_
  refine AL ?_
  refine AI ?_
  refine AI ?_
  refine AM (AP rfl (kn rfl) sle_22) ?_
  refine AI ?_
  refine AM (A3 rfl (kn rfl) (kn rfl) (AE (by first | omega | (dsimp only;omega)))) ?_
  rw[hv1]
  refine C5 rfl rfl rfl rfl (by kernel_rfl) (had1) trivial ⟨rfl,trivial⟩ ⟨(kn rfl),⟨(kn rfl),⟨(kn rfl),trivial⟩⟩⟩ (YA.tidy) ?_
  rintro _ _ _ ⟨rfl,rfl,rfl⟩
  refine B3 ?_
  refine AB ?_
  try refine A1 ?_
  refine AL ?_
  refine AI ?_
  refine AI ?_
  refine AM (AP rfl (kn rfl) sle_22) ?_
  refine AI ?_
  refine AM (A3 rfl (kn rfl) (kn rfl) (AE (by first | omega | (dsimp only;omega)))) ?_
  rw[hv2]
  refine C5 rfl rfl rfl rfl (by kernel_rfl) (had2) trivial ⟨rfl,trivial⟩ ⟨(kn rfl),⟨(kn rfl),⟨(kn rfl),trivial⟩⟩⟩ (YA.tidy) ?_
  rintro _ _ _ ⟨rfl,rfl,rfl⟩
  refine B3 ?_
  refine AB ?_
  try refine A1 ?_
  refine AL ?_
  refine AI ?_
  refine AI ?_
  refine C5 rfl rfl rfl rfl (by kernel_rfl) (had3) trivial ⟨rfl,trivial⟩ ⟨(kn rfl),⟨(kn rfl),⟨(kn rfl),trivial⟩⟩⟩ (YA.tidy) ?_
  rintro _ _ _ ⟨rfl,rfl,rfl⟩
  refine AT 53 1000 rfl rfl rfl ?_
  refine B3 ?_
  refine AB ?_
  try refine A1 ?_
  exact AJ rfl rfl (.tmp (kn rfl) (.nil)) (Imp.refl _) rfl
 ·have h1:(hd a b:Int)≠0:=by omega
  have e1:=C3 (k:=1) h1
  rw[e1]at had1 had2 had3 ⊢
  refine AL ?_
  refine AI ?_
  refine JF 1000 rfl rfl rfl rfl (by kernel_rfl) (LQ 1 (hd a b:Int) h1) ⟨kn rfl,kn rfl,kn rfl,trivial⟩ rfl rfl ?_
  refine B3 ?_
  refine AB ?_
  try refine A1 ?_
  refine AL ?_
  refine AI ?_
  refine AI ?_
  refine AM (AP rfl (kn rfl) sle_22) ?_
  refine AI ?_
  refine AM (A3 rfl (kn rfl) (kn rfl) (AE (by first | omega | (dsimp only;omega)))) ?_
  rw[hv1]
  refine C5 rfl rfl rfl rfl (by kernel_rfl) (had1) trivial ⟨rfl,trivial⟩ ⟨(kn rfl),⟨(kn rfl),⟨(kn rfl),trivial⟩⟩⟩ (YA.tidy) ?_
  rintro _ _ _ ⟨rfl,rfl,rfl⟩
  refine B3 ?_
  refine AB ?_
  try refine A1 ?_
  refine AL ?_
  refine AI ?_
  refine AI ?_
  refine AM (AP rfl (kn rfl) sle_22) ?_
  refine AI ?_
  refine AM (A3 rfl (kn rfl) (kn rfl) (AE (by first | omega | (dsimp only;omega)))) ?_
  rw[hv2]
  refine C5 rfl rfl rfl rfl (by kernel_rfl) (had2) trivial ⟨rfl,trivial⟩ ⟨(kn rfl),⟨(kn rfl),⟨(kn rfl),trivial⟩⟩⟩ (YA.tidy) ?_
  rintro _ _ _ ⟨rfl,rfl,rfl⟩
  refine B3 ?_
  refine AB ?_
  try refine A1 ?_
  refine AL ?_
  refine AI ?_
  refine AI ?_
  refine C5 rfl rfl rfl rfl (by kernel_rfl) (had3) trivial ⟨rfl,trivial⟩ ⟨(kn rfl),⟨(kn rfl),⟨(kn rfl),trivial⟩⟩⟩ (YA.tidy) ?_
  rintro _ _ _ ⟨rfl,rfl,rfl⟩
  refine AT 53 1000 rfl rfl rfl ?_
  refine B3 ?_
  refine AB ?_
  try refine A1 ?_
  exact AJ rfl rfl (.tmp (kn rfl) (.nil)) (Imp.refl _) rfl
theorem H0(a b:List Int)(ha:a.length<=1000000)(hb:b.length<=1000000):EF Try.prog [] 11 [.one (zsD a),.one (zsD b)] (.part (.one (HI (B7 (C4 a b))))):=by
 unfold C4
 by_cases hn:400<edL a b
 ·rw[if_pos hn]
  have hr:=GB a b ha hb hn
  have he:=LF a b ha hb
  refine AU 22 Try.func11 rfl rfl rfl fun w D=>?_
  try refine A1 ?_
  refine A0 (A9 rfl rfl rfl rfl rfl .nil) ?_
  try refine A1 ?_
  refine A0 (A5 rfl rfl rfl rfl rfl (A5 rfl rfl rfl rfl rfl (A4 rfl rfl rfl (AX rfl (by kernel_rfl) (hr) ⟨(kn rfl),⟨(kn rfl),trivial⟩⟩) (A5 rfl rfl rfl rfl rfl (A4 rfl rfl rfl (BK rfl (kn rfl) rfl) (A4 rfl rfl rfl (BK rfl (kn rfl) rfl) (A9 rfl rfl rfl rfl rfl (A9 rfl rfl rfl rfl rfl .nil)))))))) ?_
  try refine A1 ?_
  refine A0 (A5 rfl rfl rfl rfl rfl (A4 rfl rfl rfl (HE rfl (kn rfl)) .nil)) ?_
  try refine A1 ?_
  refine ME ?_
  try refine A1 ?_
  refine A0 (A5 rfl rfl rfl rfl rfl (A5 rfl rfl rfl rfl rfl (A4 rfl rfl rfl (AX rfl (by kernel_rfl) (he) ⟨(kn rfl),⟨(kn rfl),trivial⟩⟩) (A9 rfl rfl rfl rfl rfl .nil)))) ?_
  try refine A1 ?_
  exact AJ rfl rfl (.tmp (kn rfl) (.nil)) (Imp.refl _) rfl
 ·rw[if_neg hn]
  have hr:=FT a b ha hb (by omega)
  have he:=M7 a b ha hb (by omega)
  refine AU 22 Try.func11 rfl rfl rfl fun w D=>?_
  try refine A1 ?_
  refine A0 (A9 rfl rfl rfl rfl rfl .nil) ?_
  try refine A1 ?_
  refine A0 (A5 rfl rfl rfl rfl rfl (A5 rfl rfl rfl rfl rfl (A4 rfl rfl rfl (AX rfl (by kernel_rfl) (hr) ⟨(kn rfl),⟨(kn rfl),trivial⟩⟩) (A5 rfl rfl rfl rfl rfl (A4 rfl rfl rfl (BK rfl (kn rfl) rfl) (A4 rfl rfl rfl (BK rfl (kn rfl) rfl) (A9 rfl rfl rfl rfl rfl (A9 rfl rfl rfl rfl rfl .nil)))))))) ?_
  try refine A1 ?_
  refine A0 (A5 rfl rfl rfl rfl rfl (A4 rfl rfl rfl (HE rfl (kn rfl)) .nil)) ?_
  try refine A1 ?_
  refine NA ?_
  try refine A1 ?_
  refine A0 (A5 rfl rfl rfl rfl rfl (A5 rfl rfl rfl rfl rfl (A5 rfl rfl rfl rfl rfl (A4 rfl rfl rfl (AX rfl (by kernel_rfl) (he) ⟨(kn rfl),⟨(kn rfl),⟨(kn rfl),trivial⟩⟩⟩) (A9 rfl rfl rfl rfl rfl .nil))))) ?_
  try refine A1 ?_
  exact AJ rfl rfl (.tmp (kn rfl) (.nil)) (Imp.refl _) rfl
def GC(a b:List Int):Nat:=if 400<edL a b then 401 else edL a b
theorem EP(a b:List Int)(ha:a.length<=1000000)(hb:b.length<=1000000):EF Try.prog [] 13 [.one (zsD a),.one (zsD b)] (.part (zP (GC a b:Int))):=by
 unfold GC
 by_cases hn:400<edL a b
 ·rw[if_pos hn]
  have hr:=GB a b ha hb hn
  refine AU 17 Try.func13 rfl rfl rfl fun w D=>?_
  try refine A1 ?_
  refine A0 (A9 rfl rfl rfl rfl rfl .nil) ?_
  try refine A1 ?_
  refine A0 (A5 rfl rfl rfl rfl rfl (A5 rfl rfl rfl rfl rfl (A4 rfl rfl rfl (AX rfl (by kernel_rfl) (hr) ⟨(kn rfl),⟨(kn rfl),trivial⟩⟩) (A5 rfl rfl rfl rfl rfl (A4 rfl rfl rfl (BK rfl (kn rfl) rfl) (A4 rfl rfl rfl (BK rfl (kn rfl) rfl) (A9 rfl rfl rfl rfl rfl (A9 rfl rfl rfl rfl rfl .nil)))))))) ?_
  try refine A1 ?_
  refine A0 (A5 rfl rfl rfl rfl rfl (A4 rfl rfl rfl (HE rfl (kn rfl)) .nil)) ?_
  try refine A1 ?_
  refine ME ?_
  try refine A1 ?_
  refine A0 (A9 rfl rfl rfl rfl rfl .nil) ?_
  try refine A1 ?_
  exact AJ rfl rfl (.tmp (kn rfl) (.nil)) (Imp.refl _) rfl
 ·rw[if_neg hn]
  have hr:=FT a b ha hb (by omega)
  have hfl:=CI a b (edL a b+1)
  have hdi:=IA (BX a b (edL a b+1)) (by omega)
  rw[hfl,show(((edL a b+1:Nat)):Int)-1=(edL a b:Int) by omega]at hdi
  refine AU 17 Try.func13 rfl rfl rfl fun w D=>?_
  try refine A1 ?_
  refine A0 (A9 rfl rfl rfl rfl rfl .nil) ?_
  try refine A1 ?_
  refine A0 (A5 rfl rfl rfl rfl rfl (A5 rfl rfl rfl rfl rfl (A4 rfl rfl rfl (AX rfl (by kernel_rfl) (hr) ⟨(kn rfl),⟨(kn rfl),trivial⟩⟩) (A5 rfl rfl rfl rfl rfl (A4 rfl rfl rfl (BK rfl (kn rfl) rfl) (A4 rfl rfl rfl (BK rfl (kn rfl) rfl) (A9 rfl rfl rfl rfl rfl (A9 rfl rfl rfl rfl rfl .nil)))))))) ?_
  try refine A1 ?_
  refine A0 (A5 rfl rfl rfl rfl rfl (A4 rfl rfl rfl (HE rfl (kn rfl)) .nil)) ?_
  try refine A1 ?_
  refine NA ?_
  try refine A1 ?_
  refine A0 (A5 rfl rfl rfl rfl rfl (A4 rfl rfl rfl (AX rfl (by kernel_rfl) (hdi) ⟨(kn rfl),trivial⟩) (A9 rfl rfl rfl rfl rfl .nil))) ?_
  try refine A1 ?_
  exact AJ rfl rfl (.tmp (kn rfl) (.nil)) (Imp.refl _) rfl
theorem zz{a b:Int}(h:decide (a<b)=false):b<=a:=by have:=of_decide_eq_false h;omega
theorem MM{p q:Rn}:CF Try.prog .neq 39 (.agg #[.int .i64 p.1,.int .i64 p.2]) (.agg #[.int .i64 q.1,.int .i64 q.2]) (.bool (!decide (p=q))):=by
 have h:=LK (P:=Try.prog) (t:=39) (cs:=[.int .i64 p.1,.int .i64 p.2]) (ds:=[.int .i64 q.1,.int .i64 q.2]) (by kernel_rfl) (by kernel_rfl) (by kernel_rfl) (GK (ks:=[false,false]) (by kernel_rfl) (.int _ _ _ (.int _ _ _ .nil)))
 have e:GZ ([Value.int .i64 p.1,Value.int .i64 p.2]=[Value.int .i64 q.1,Value.int .i64 q.2])=decide (p=q):=by
  have h1:([Value.int .i64 p.1,Value.int .i64 p.2]=[Value.int .i64 q.1,Value.int .i64 q.2])↔p=q:=by
   constructor
   ·intro h
    injection h with h1 h2
    injection h1 with _ h1
    injection h2 with h2 _
    injection h2 with _ h2
    exact Prod.ext h1 h2
   ·rintro rfl
    rfl
  by_cases hp:p=q
  ·rw[decide_eq_true hp]
   simp[GZ,h1,hp]
  ·rw[decide_eq_false hp]
   simp[GZ,h1,hp]
 rwa [e]at h
theorem K7{a b:List Rn}{k:Nat}{p q:Rn}(h:a.take k=b.take k)(hp:a[k]?=some p)(hq:b[k]?=some q):a.take (k+1)=b.take (k+1)↔p=q:=by
 rw[List.take_add_one,List.take_add_one,h,hp,hq]
 simp
theorem IT(a b:List Rn)(ha:a.length<=10000000)(hb:b.length<=10000000):EF Try.prog [] 10 [.one (HI a),.one (HI b)] (.part (bP (decide (a=b)))):=by
 refine AU 26 Try.func10 rfl rfl rfl fun w D=>?_
 try refine A1 ?_
 refine A0 (A9 rfl rfl rfl rfl rfl .nil) ?_
 try refine A1 ?_
 refine A0 (A5 rfl rfl rfl rfl rfl (A4 rfl rfl rfl (AP rfl (kn rfl) sle_28) (A5 rfl rfl rfl rfl rfl (A4 rfl rfl rfl (AP rfl (kn rfl) sle_30) (A4 rfl rfl rfl (A3 rfl (kn rfl) (kn rfl) IK) .nil))))) ?_
 try refine A1 ?_
 refine AC rfl (fun h=>?_) (fun h=>?_)
 ·try refine A1 ?_
  refine A0 (A9 rfl rfl rfl rfl rfl .nil) ?_
  try refine A1 ?_
  exact AJ rfl rfl (.tmp (kn rfl) (.nil)) (G6 (decide_eq_false fun e=>by subst e;simp at h).symm) rfl
 have hl:a.length=b.length:=by
  simp only[Bool.not_eq_false',decide_eq_true_eq]at h
  omega
 try refine A1 ?_
 refine A0 (A5 rfl rfl rfl rfl rfl (A4 rfl rfl rfl (AP rfl (kn rfl) sle_28) (A5 rfl rfl rfl rfl rfl .nil))) ?_
 try refine A1 ?_
 refine B8 (ι:={ i:Nat // i<=a.length/\a.take i=b.take i })
  (fun i=>[(1,.part (.one (HI b))),(12,.part (.one (HI a))),(13,zI (a.length:Int)),(14,zI (i.1:Int))])
  (fun _=>[]) (fun _=>[]) (fun i=>a.length-i.1) ⟨0,Nat.zero_le _,rfl⟩
  (fun K=>AN ⟨s_t,s_t,s_t,s_t,trivial⟩ trivial trivial) ?_
 rintro⟨i,hi,ht⟩
 dsimp only at hi ht ⊢
 try refine A1 ?_
 refine A0 (A4 rfl rfl rfl (A3 rfl (kn rfl) (kn rfl) BF) .nil) ?_
 try refine A1 ?_
 refine AC rfl (fun h=>?_) (fun h=>?_)
 ·have hlt:=ltd h
  obtain⟨p,hp⟩:∃ p,a[i]?=some p:=⟨_,List.getElem?_eq_getElem hlt⟩
  obtain⟨q,hq⟩:∃ q,b[i]?=some q:=⟨_,List.getElem?_eq_getElem (by omega)⟩
  have he:=K7 ht hp hq
  try refine A1 ?_
  refine AL ?_
  refine AI ?_
  refine AM (AG rfl (kn rfl) (kn rfl) (by omega) hp GS sle_28 esz_28 rfl) ?_
  refine AM (EN rfl (kn rfl) agg_45 sz_45) ?_
  refine M3 6 [.is (.int .i64 0),.is (.int .i64 0)] rfl rfl rfl rfl zr_45 (fun w D M V=>⟨rfl,fun j x v h1 h2=>L8 _ h1 h2 rfl⟩) rfl rfl rfl rfl ?_
  refine B3 ?_
  refine KQ rfl rfl rfl (kn rfl) rfl (kn rfl) rfl rfl sz_45 ?_
  refine AB ?_
  try refine A1 ?_
  refine C8 BR (by kernel_rfl) (A4 rfl rfl rfl (HK (ds:=[_,_]) 2 rfl (kn rfl) rfl rfl agg_45 sz_45 rfl) (A5 rfl rfl rfl rfl rfl (A5 rfl rfl rfl rfl rfl (A4 rfl rfl rfl (AG rfl (kn rfl) (kn rfl) (by omega) hq GS sle_30 esz_30 rfl) (A4 rfl rfl rfl (EN rfl (kn rfl) agg_39 sz_39) (A4 rfl rfl rfl (NB (cs:=[.int .i64 p.1,.int .i64 p.2]) (ds:=[.int .i64 q.1,.int .i64 q.2]) rfl (kn rfl) (kn rfl) MM) .nil)))))) ?_
  try refine A1 ?_
  refine AC rfl (fun h1=>?_) (fun h1=>?_)
  ·try refine A1 ?_
   refine A0 (A9 rfl rfl rfl rfl rfl .nil) ?_
   try refine A1 ?_
   exact AJ rfl rfl (.tmp (kn rfl) (.nil)) (G6 (decide_eq_false fun e=>by subst e;have e1:=hp.symm.trans hq;injection e1 with e1;simp[e1]at h1).symm) rfl
  have h2:p=q:=by simpa using h1
  try refine A1 ?_
  refine A0 (A4 rfl rfl rfl (A3 rfl (kn rfl) (kn rfl) (AA (by first | omega | (dsimp only;omega)))) (A5 rfl rfl rfl rfl rfl .nil)) ?_
  try refine A1 ?_
  refine AR ⟨i+1,by omega,he.2 h2⟩ (by dsimp only;omega) (fun K=>AN ⟨s_t,s_t,s_t,s_t,trivial⟩ trivial trivial)
 rw[List.take_of_length_le (ltf h),List.take_of_length_le (by have:=ltf h;omega)]at ht
 try refine A1 ?_
 refine A0 (A9 rfl rfl rfl rfl rfl .nil) ?_
 try refine A1 ?_
 exact AJ rfl rfl (.tmp (kn rfl) (.nil)) (G6 (decide_eq_true ht).symm) rfl
theorem JY(b:List Int):edL [] b=b.length:=BN _
theorem I0(a:List Int):edL a []=a.length:=C2 _
theorem KA:B7 (C4 [1,2,3] [1,3,4])=[(1,1),(2,1),(1,1),(3,1)]:=by
 have h1:edL [1,2,3] [1,3,4]=2:=by simp[GW,JY,I0]
 have h2:stL [1,2,3] [1,3,4]=[1,2,1,3]:=by simp[KL,GW,JY,I0,LS,NR]
 unfold C4
 rw[h1,if_neg (by decide),h2]
 rfl
theorem M2:GC [1] []=1:=by
 unfold GC
 rw[I0]
 rfl
theorem KK:EF Try.prog [] 7 [] (.part (bP true)):=by
 have h1:=H0 [1,2,3] [1,3,4] (by decide) (by decide)
 rw[KA]at h1
 have h2:=IT [(1,1),(2,1),(1,1),(3,1)] [(1,1),(2,1),(1,1),(3,1)] (by decide) (by decide)
 rw[decide_eq_true rfl]at h2
 have h3:=EP [1] [] (by decide) (by decide)
 rw[M2]at h3
 refine AU 17 Try.func7 rfl rfl rfl fun w D=>?_
 try refine A1 ?_
 refine A0 (A9 rfl rfl rfl rfl rfl .nil) ?_
 try refine A1 ?_
 refine A0 (A4 rfl rfl rfl (AF (ds:=[_,_,_]) [(0,_),(1,_),(2,_)] rfl ⟨rfl,(kn rfl),⟨rfl,(kn rfl),⟨rfl,(kn rfl),trivial⟩⟩⟩ rfl sl_22 sz_3 zr_3 (fun w D=>.cons (.cell _) (.cons (.cell _) (.cons (.cell _) (.nil _ _)))) rfl rfl rfl rfl rfl) (A4 rfl rfl rfl (AF (ds:=[_,_,_]) [(0,_),(1,_),(2,_)] rfl ⟨rfl,(kn rfl),⟨rfl,(kn rfl),⟨rfl,(kn rfl),trivial⟩⟩⟩ rfl sl_22 sz_3 zr_3 (fun w D=>.cons (.cell _) (.cons (.cell _) (.cons (.cell _) (.nil _ _)))) rfl rfl rfl rfl rfl) (A4 rfl rfl rfl (AX rfl (by kernel_rfl) (h1) ⟨(kn rfl),⟨(kn rfl),trivial⟩⟩) (A9 rfl rfl rfl rfl rfl .nil)))) ?_
 try refine A1 ?_
 refine A0 (A5 rfl rfl rfl rfl rfl (A4 rfl rfl rfl (CE (ds:=[_,_]) [(0,_),(1,_)] rfl ⟨rfl,(kn rfl),⟨rfl,(kn rfl),trivial⟩⟩ rfl pl_39 zr_39 (fun w D=>.cons (.cell _) (.cons (.cell _) (.nil _ _))) rfl) (A4 rfl rfl rfl (CE (ds:=[_,_]) [(0,_),(1,_)] rfl ⟨rfl,(kn rfl),⟨rfl,(kn rfl),trivial⟩⟩ rfl pl_39 zr_39 (fun w D=>.cons (.cell _) (.cons (.cell _) (.nil _ _))) rfl) (A4 rfl rfl rfl (CE (ds:=[_,_]) [(0,_),(1,_)] rfl ⟨rfl,(kn rfl),⟨rfl,(kn rfl),trivial⟩⟩ rfl pl_39 zr_39 (fun w D=>.cons (.cell _) (.cons (.cell _) (.nil _ _))) rfl) (A4 rfl rfl rfl (CE (ds:=[_,_]) [(0,_),(1,_)] rfl ⟨rfl,(kn rfl),⟨rfl,(kn rfl),trivial⟩⟩ rfl pl_39 zr_39 (fun w D=>.cons (.cell _) (.cons (.cell _) (.nil _ _))) rfl) (A4 rfl rfl rfl (AF (ds:=[_,_,_,_,_,_,_,_]) [(0,_),(1,_),(2,_),(3,_)] rfl ⟨rfl,(kn rfl),⟨rfl,(kn rfl),⟨rfl,(kn rfl),⟨rfl,(kn rfl),trivial⟩⟩⟩⟩ rfl sl_30 sz_39 zr_39 (fun w D=>.cons (.cell _) (.cons (.cell _) (.cons (.cell _) (.cons (.cell _) (.cons (.cell _) (.cons (.cell _) (.cons (.cell _) (.cons (.cell _) (.nil _ _))))))))) rfl rfl rfl rfl rfl) (A4 rfl rfl rfl (AX rfl (by kernel_rfl) (h2) ⟨(kn rfl),⟨(kn rfl),trivial⟩⟩) (A5 rfl rfl rfl rfl rfl (Walk.gd _ rfl rfl rfl (fun h=>AF (ds:=[_]) [(0,_)] rfl ⟨rfl,(kn rfl),trivial⟩ rfl sl_22 sz_3 zr_3 (fun w D=>.cons (.cell _) (.nil _ _)) rfl rfl rfl rfl rfl) (Walk.gd _ rfl rfl rfl (fun h=>AX rfl (by kernel_rfl) h3 ⟨A2 rfl h,EC (kn rfl) (Imp.nil 1),trivial⟩) (Walk.gd _ rfl rfl rfl (fun h=>A3 rfl (A2 rfl h) (kn rfl) B9) (A4 rfl rfl rfl (BE rfl (kn rfl) (fun hb=>A2 rfl hb)) (A9 rfl rfl rfl rfl rfl .nil))))))))))))) ?_
 try refine A1 ?_
 exact AJ rfl rfl (.tmp (kn rfl) (.nil)) (G6 rfl) rfl
theorem MN{P:Program}{t:TypeId}(m N:Nat){n:Int}(e:n=(N:Int))(h:0<N)(hm:m<=1000000000):CF P .quo t (.int .i64 (m:Int)) (.int .i64 n) (.int .i64 ((m / N:Nat):Int)):=by
 subst e
 have:=MF (P:=P) (t:=t) (k:=.i64) (m:=(m:Int)) (n:=(N:Int)) (by omega)
 have h1:m / N<=m:=Nat.div_le_self _ _
 rw[Int.tdiv_eq_ediv_of_nonneg (by omega),show(m:Int) / (N:Int)=((m / N:Nat):Int) from rfl]at this
 generalize m / N=q at h1 this ⊢
 rwa [DD _ (by omega) (by omega)]at this
theorem NY(z:Int):∃ k:Nat,(IntKind.u64.wrap z).tmod 300=(k:Int)/\k<300:=by
 have:=(HM z).1
 refine⟨((IntKind.u64.wrap z) % 300).toNat,?_,by omega⟩
 rw[Int.tmod_eq_emod_of_nonneg this]
 omega
abbrev fR(A B:List Int):RL:=[(1000,⟨3,1,A.length,A.flatMap zD1,false⟩),(1001,⟨3,1,B.length,B.flatMap zD1,false⟩)]
set_option maxHeartbeats 2000000 in
theorem ND(ps:List Int)(times:Int):EF Try.prog [] 4 [.one (zsD ps),zP times] (.part (bP true)):=by
 obtain⟨k,hk,hk3⟩:=NY times
 refine AU 85 Try.func4 rfl rfl rfl fun w D=>?_
 try refine A1 ?_
 refine A0 (A9 rfl rfl rfl rfl rfl .nil) ?_
 try refine A1 ?_
 refine A0 (A4 rfl rfl rfl (AX rfl (by kernel_rfl) (KK) trivial) (A4 rfl rfl rfl (HE rfl (kn rfl)) .nil)) ?_
 try refine A1 ?_
 refine NA ?_
 try refine A1 ?_
 refine A0 (A5 rfl rfl rfl rfl rfl (A4 rfl rfl rfl (AP rfl (kn rfl) sle_22) (A4 rfl rfl rfl (A3 rfl (kn rfl) (kn rfl) D1) .nil))) ?_
 try refine A1 ?_
 refine AC rfl (fun h=>?_) (fun h=>?_)
 ·try refine A1 ?_
  refine A0 (A9 rfl rfl rfl rfl rfl .nil) ?_
  try refine A1 ?_
  exact AJ rfl rfl (.tmp (kn rfl) (.nil)) (Imp.refl _) rfl
 have hps:ps.length<=40:=by have:=of_decide_eq_false h;omega
 try refine A1 ?_
 refine A0 (A5 rfl rfl rfl rfl rfl (A4 rfl rfl rfl (KS rfl (kn rfl) (by kernel_rfl) int_34 (by kernel_rfl) rfl) (A4 rfl rfl rfl (A3 rfl (kn rfl) (kn rfl) (HF (by omega))) (A4 rfl rfl rfl (KS (z:=(k:Int)) rfl (kn rfl) (by kernel_rfl) int_3 (by kernel_rfl) (by rw[hk];exact DD (k:Int) (by omega) (by omega))) (A9 rfl rfl rfl rfl rfl .nil))))) ?_
 try refine A1 ?_
 refine AL ?_
 refine E9 1000 rfl rfl rfl rfl sl_22 ap_22 rfl rfl ?_
 refine E9 1001 rfl rfl rfl rfl sl_22 ap_22 rfl rfl ?_
 refine B3 ?_
 refine B3 ?_
 refine AB ?_
 try refine A1 ?_
 refine A0 (A5 rfl rfl rfl rfl rfl (A4 rfl rfl rfl (AP rfl (kn rfl) sle_22) (A5 rfl rfl rfl rfl rfl .nil))) ?_
 try refine A1 ?_
 refine B8 (ι:={ t:Nat×List Int×List Int // t.1<=ps.length/\t.2.1.length<=301*t.1/\t.2.2.length<=301*t.1 })
  (fun t=>[(5,zI (k:Int)),(6,.own 1000),(7,.own 1001),(23,.part (.one (zsD ps))),(24,zI (ps.length:Int)),(25,zI (t.1.1:Int))])
  (fun _=>[]) (fun t=>fR t.1.2.1 t.1.2.2) (fun t=>ps.length-t.1.1) ⟨(0,[],[]),Nat.zero_le _,Nat.zero_le _,Nat.zero_le _⟩
  (fun K=>AN ⟨s_t,s_t,s_t,s_t,s_t,s_t,trivial⟩ trivial ⟨rfl,rfl,trivial⟩) ?_
 rintro⟨⟨i,A,B⟩,hi,hA,hB⟩
 dsimp only at hi hA hB ⊢
 try refine A1 ?_
 refine A0 (A4 rfl rfl rfl (A3 rfl (kn rfl) (kn rfl) BF) .nil) ?_
 try refine A1 ?_
 refine AC rfl (fun h=>?_) (fun h=>?_)
 ·have hlt:=ltd h
  obtain⟨p,hp⟩:∃ p,ps[i]?=some p:=⟨_,List.getElem?_eq_getElem hlt⟩
  have hq:k / (1+i)<=k:=Nat.div_le_self _ _
  try refine A1 ?_
  refine A0 (A5 rfl rfl rfl rfl rfl (A4 rfl rfl rfl (AG rfl (kn rfl) (kn rfl) (by omega) hp AH sle_22 esz_22 rfl) (A4 rfl rfl rfl (A7 rfl (kn rfl) one_3) (A9 rfl rfl rfl rfl rfl (A9 rfl rfl rfl rfl rfl .nil))))) ?_
  try refine A1 ?_
  refine A0 (A9 rfl rfl rfl rfl rfl .nil) ?_
  try refine A1 ?_
  refine B8 (ι:={ t:Nat×List Int×List Int // t.1<=1+k / (1+i)/\t.2.1.length<=301*i+t.1/\t.2.2.length<=301*i+t.1 })
   (fun t=>[(5,zI (k:Int)),(6,.own 1000),(7,.own 1001),(8,zI (i:Int)),(9,zI p),(10,zI (t.1.1:Int)),(23,.part (.one (zsD ps))),(24,zI (ps.length:Int)),(25,zI (i:Int)),(27,zI (i:Int))])
   (fun _=>[]) (fun t=>fR t.1.2.1 t.1.2.2) (fun t=>1+k / (1+i)-t.1.1) ⟨(0,A,B),Nat.zero_le _,by dsimp only;omega,by dsimp only;omega⟩
   (fun K=>AN ⟨s_t,s_t,s_t,s_t,s_t,s_t,s_t,s_t,s_t,s_t,trivial⟩ trivial ⟨rfl,rfl,trivial⟩) ?_
  clear hA hB
  rintro⟨⟨j,A,B⟩,hj,hA,hB⟩
  dsimp only at hj hA hB ⊢
  generalize hQ:k / (1+i)=Q at hj hq ⊢
  try refine A1 ?_
  refine A0 (A5 rfl rfl rfl rfl rfl (A5 rfl rfl rfl rfl rfl (A5 rfl rfl rfl rfl rfl (A4 rfl rfl rfl (A3 rfl (kn rfl) (kn rfl) (AA (by first | omega | (dsimp only;omega)))) (A4 rfl rfl rfl (A3 rfl (kn rfl) (kn rfl) (MN k (1+i) (by omega) (by omega) (by omega))) (A4 rfl rfl rfl (A3 rfl (kn rfl) (kn rfl) (AA (by first | omega | (dsimp only;omega)))) (A4 rfl rfl rfl (A3 rfl (kn rfl) (kn rfl) BF) .nil))))))) ?_
  try refine A1 ?_
  rw[hQ]
  refine AC rfl (fun h1=>?_) (fun h1=>?_)
  ·have hjq:j<1+Q:=by have:=of_decide_eq_true h1;omega
   try refine A1 ?_
   refine A0 (A5 rfl rfl rfl rfl rfl (A4 rfl rfl rfl (A3 rfl (kn rfl) (kn rfl) (HF (by omega))) (A4 rfl rfl rfl (A3 rfl (kn rfl) (kn rfl) IK) .nil))) ?_
   try refine A1 ?_
   refine AC rfl (fun h2=>?_) (fun h2=>?_)
   ·try refine A1 ?_
    refine AL ?_
    refine AI ?_
    refine AI ?_
    refine AM (AF (ds:=[_]) [(0,_)] rfl ⟨rfl,(kn rfl),trivial⟩ rfl sl_22 sz_3 zr_3 (fun w D=>.cons (.cell _) (.nil _ _)) rfl rfl rfl rfl rfl) ?_
    refine AY rfl rfl rfl rfl (kn rfl) rfl (kn rfl) sl_22 ap_22 rfl rfl (by omega) (by omega) ?_
    refine BO (BD A p) (BV A p) ?_
    refine B3 ?_
    refine AB ?_
    try refine A1 ?_
    refine A0 (A5 rfl rfl rfl rfl rfl (A4 rfl rfl rfl (A3 rfl (kn rfl) (kn rfl) (HF (by omega))) (A4 rfl rfl rfl (A3 rfl (kn rfl) (kn rfl) IK) .nil))) ?_
    try refine A1 ?_
    refine AC rfl (fun h3=>?_) (fun h3=>?_)
    ·try refine A1 ?_
     refine AL ?_
     refine AI ?_
     refine AI ?_
     refine AM (AF (ds:=[_]) [(0,_)] rfl ⟨rfl,(kn rfl),trivial⟩ rfl sl_22 sz_3 zr_3 (fun w D=>.cons (.cell _) (.nil _ _)) rfl rfl rfl rfl rfl) ?_
     refine AY rfl rfl rfl rfl (kn rfl) rfl (kn rfl) sl_22 ap_22 rfl rfl (by omega) (by omega) ?_
     refine BO (BD B p) (BV B p) ?_
     refine B3 ?_
     refine AB ?_
     try refine A1 ?_
     refine A0 (A5 rfl rfl rfl rfl rfl (A4 rfl rfl rfl (A3 rfl (kn rfl) (kn rfl) (AA (by first | omega | (dsimp only;omega)))) (A9 rfl rfl rfl rfl rfl .nil))) ?_
     try refine A1 ?_
     refine AR ⟨(j+1,A++[p],B++[p]),by dsimp only;omega,by dsimp only;first | omega | (simp only[List.length_append,List.length_singleton];omega),by dsimp only;first | omega | (simp only[List.length_append,List.length_singleton];omega)⟩ (by dsimp only;omega) (fun K=>AN ⟨s_t,s_t,s_t,s_t,s_t,s_t,s_t,s_t,s_t,s_t,trivial⟩ trivial ⟨rfl,rfl,trivial⟩)
    ·try refine A1 ?_
     refine A0 (A5 rfl rfl rfl rfl rfl (A4 rfl rfl rfl (A3 rfl (kn rfl) (kn rfl) (AA (by first | omega | (dsimp only;omega)))) (A9 rfl rfl rfl rfl rfl .nil))) ?_
     try refine A1 ?_
     refine AR ⟨(j+1,A++[p],B),by dsimp only;omega,by dsimp only;first | omega | (simp only[List.length_append,List.length_singleton];omega),by dsimp only;omega⟩ (by dsimp only;omega) (fun K=>AN ⟨s_t,s_t,s_t,s_t,s_t,s_t,s_t,s_t,s_t,s_t,trivial⟩ trivial ⟨rfl,rfl,trivial⟩)
   ·try refine A1 ?_
    refine A0 (A5 rfl rfl rfl rfl rfl (A4 rfl rfl rfl (A3 rfl (kn rfl) (kn rfl) (HF (by omega))) (A4 rfl rfl rfl (A3 rfl (kn rfl) (kn rfl) IK) .nil))) ?_
    try refine A1 ?_
    refine AC rfl (fun h3=>?_) (fun h3=>?_)
    ·try refine A1 ?_
     refine AL ?_
     refine AI ?_
     refine AI ?_
     refine AM (AF (ds:=[_]) [(0,_)] rfl ⟨rfl,(kn rfl),trivial⟩ rfl sl_22 sz_3 zr_3 (fun w D=>.cons (.cell _) (.nil _ _)) rfl rfl rfl rfl rfl) ?_
     refine AY rfl rfl rfl rfl (kn rfl) rfl (kn rfl) sl_22 ap_22 rfl rfl (by omega) (by omega) ?_
     refine BO (BD B p) (BV B p) ?_
     refine B3 ?_
     refine AB ?_
     try refine A1 ?_
     refine A0 (A5 rfl rfl rfl rfl rfl (A4 rfl rfl rfl (A3 rfl (kn rfl) (kn rfl) (AA (by first | omega | (dsimp only;omega)))) (A9 rfl rfl rfl rfl rfl .nil))) ?_
     try refine A1 ?_
     refine AR ⟨(j+1,A,B++[p]),by dsimp only;omega,by dsimp only;first | omega | (simp only[List.length_append,List.length_singleton];omega),by dsimp only;first | omega | (simp only[List.length_append,List.length_singleton];omega)⟩ (by dsimp only;omega) (fun K=>AN ⟨s_t,s_t,s_t,s_t,s_t,s_t,s_t,s_t,s_t,s_t,trivial⟩ trivial ⟨rfl,rfl,trivial⟩)
    ·try refine A1 ?_
     refine A0 (A5 rfl rfl rfl rfl rfl (A4 rfl rfl rfl (A3 rfl (kn rfl) (kn rfl) (AA (by first | omega | (dsimp only;omega)))) (A9 rfl rfl rfl rfl rfl .nil))) ?_
     try refine A1 ?_
     refine AR ⟨(j+1,A,B),by dsimp only;omega,by dsimp only;first | omega | (simp only[List.length_append,List.length_singleton];omega),by dsimp only;omega⟩ (by dsimp only;omega) (fun K=>AN ⟨s_t,s_t,s_t,s_t,s_t,s_t,s_t,s_t,s_t,s_t,trivial⟩ trivial ⟨rfl,rfl,trivial⟩)
  have hjq:j=1+Q:=by have:=of_decide_eq_false h1;omega
  try refine A1 ?_
  refine A0 (A4 rfl rfl rfl (A3 rfl (kn rfl) (kn rfl) (AA (by first | omega | (dsimp only;omega)))) (A5 rfl rfl rfl rfl rfl .nil)) ?_
  try refine A1 ?_
  refine AR ⟨(i+1,A,B),by dsimp only;omega,by dsimp only;omega,by dsimp only;omega⟩ (by dsimp only;omega) (fun K=>AN ⟨s_t,s_t,s_t,s_t,s_t,s_t,trivial⟩ trivial ⟨rfl,rfl,trivial⟩)
 try refine A1 ?_
 refine A0 (A5 rfl rfl rfl rfl rfl (A4 rfl rfl rfl (BI rfl (kn rfl) rfl sle_22) (A4 rfl rfl rfl (A3 rfl (kn rfl) (kn rfl) D1) (A5 rfl rfl rfl rfl rfl (Walk.gd _ rfl rfl rfl (fun h=>A6 rfl (kn rfl)) (Walk.gd _ rfl rfl rfl (fun h=>BI rfl (A2 rfl h) rfl sle_22) (Walk.gd _ rfl rfl rfl (fun h=>A3 rfl (A2 rfl h) (kn rfl) D1) (A4 rfl rfl rfl (L9 rfl (kn rfl) (fun hb=>A2 rfl hb)) .nil)))))))) ?_
 try refine A1 ?_
 refine AC rfl (fun h1=>?_) (fun h1=>?_)
 ·try refine A1 ?_
  refine A0 (A9 rfl rfl rfl rfl rfl .nil) ?_
  try refine A1 ?_
  exact AJ rfl rfl (.tmp (kn rfl) (.nil)) (Imp.refl _) rfl
 rw[Bool.or_eq_false_iff]at h1
 have hA4:A.length<=400:=by have:=zz h1.1;dsimp only at this;omega
 have hB4:B.length<=400:=by have:=zz h1.2;dsimp only at this;omega
 have hst:=KF A B (by omega) (by omega)
 have htb:=F9 A B (by omega) (by omega)
 have hal:=H0 A B (by omega) (by omega)
 have hdi:=EP A B (by omega) (by omega)
 have hlen:=I5 A B
 have hru:=L6 (C4 A B) (by omega)
 have hrl:=F4 (C4 A B)
 have hsa:=IT (B7 (C4 A B)) (B7 (C4 A B)) (by omega) (by omega)
 rw[decide_eq_true rfl]at hsa
 have hmin:min ((dA A B 0 (Int.toNat 0):Nat):Int) 401=(GC A B:Int):=by
  show min (edL A B:Int) 401=_
  unfold GC
  split<;>omega
 try refine A1 ?_
 refine AT 6 1000 rfl rfl rfl ?_
 refine AT 7 1001 rfl rfl rfl ?_
 refine A0 (A5 rfl rfl rfl rfl rfl (A5 rfl rfl rfl rfl rfl (A4 rfl rfl rfl (AX rfl (by kernel_rfl) (htb) ⟨(kn rfl),⟨(kn rfl),trivial⟩⟩) (A4 rfl rfl rfl (AG rfl (kn rfl) (kn rfl) (by omega) (DA A B (Nat.zero_le _)) C9 sle_25 esz_25 rfl) (A4 rfl rfl rfl (A7 rfl (kn rfl) one_22) (A4 rfl rfl rfl (AG rfl (kn rfl) (kn rfl) (by omega) (CP A B 0 (Nat.zero_le _)) AH sle_22 esz_22 rfl) (A4 rfl rfl rfl (A7 rfl (kn rfl) one_3) (A4 rfl rfl rfl (MI rfl (kn rfl) (kn rfl)) (A9 rfl rfl rfl rfl rfl .nil))))))))) ?_
 try refine A1 ?_
 refine A0 (A5 rfl rfl rfl rfl rfl (A5 rfl rfl rfl rfl rfl (A4 rfl rfl rfl (AX rfl (by kernel_rfl) (hal) ⟨(kn rfl),⟨(kn rfl),trivial⟩⟩) (A5 rfl rfl rfl rfl rfl (A5 rfl rfl rfl rfl rfl (A4 rfl rfl rfl (AX rfl (by kernel_rfl) (hst) ⟨(kn rfl),⟨(kn rfl),trivial⟩⟩) (A4 rfl rfl rfl (AX rfl (by kernel_rfl) (hru) ⟨(kn rfl),trivial⟩) (A4 rfl rfl rfl (AX rfl (by kernel_rfl) (hsa) ⟨(kn rfl),⟨(kn rfl),trivial⟩⟩) (A5 rfl rfl rfl rfl rfl (Walk.gd _ rfl rfl rfl (fun h=>A6 rfl (kn rfl)) (Walk.gd _ rfl rfl rfl (fun h=>A6 rfl (kn rfl)) (Walk.gd _ rfl rfl rfl (fun h=>AX rfl (by kernel_rfl) (hdi) ⟨(A2 rfl h),⟨(A2 rfl h),trivial⟩⟩) (Walk.gd _ rfl rfl rfl (fun h=>A6 rfl (kn rfl)) (Walk.gd _ rfl rfl rfl (fun h=>A3 rfl (A2 rfl h) (A2 rfl h) B9) (A4 rfl rfl rfl (BE rfl (kn rfl) (fun hb=>A2 rfl hb)) (A9 rfl rfl rfl rfl rfl .nil)))))))))))))))) ?_
 try refine A1 ?_
 exact AJ rfl rfl (.tmp (kn rfl) (.nil)) (G6 (by rw[hmin,decide_eq_true rfl];rfl)) rfl
end Go.Proofs.Ytjpghcmlglhmbaa
