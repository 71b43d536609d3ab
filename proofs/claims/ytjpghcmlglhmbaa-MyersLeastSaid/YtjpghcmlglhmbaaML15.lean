/- Part 15. Conditions: as each theorem says. -/
import Derived.Test.YtjpghcmlglhmbaaML14
import Derived.Test.YtjpghcmlglhmbaaProg
import Derived.ChangeArms
import Derived.Deep.Slices
import Derived.Deep.Fields
import Derived.ChangeSame
import Derived.ProofKit
import Derived.OpenShut
import Derived.Carry
import Derived.SizedLaws
set_option maxRecDepth 100000
namespace Go.Proofs.Ytjpghcmlglhmbaa
open Go.RowKit
theorem KD(a:List Int)(h:edL a a<=400):B4 (BR a a)=BD [] 1 (a.length:Int):=by
 rw[HP h,GL]
 exact CM [] 1 a.length
theorem JY(a:List Int):edL a a=0:=by
 have h:=(GM a a).1
 rw[GL,HX]at h
 simpa using h.symm
set_option maxHeartbeats 2000000 in
theorem JO(a b:List Int)(l:List Rn)(hln:l.length<=8796093022208):EF Try.prog [] 6 [.one (zsD a),.one (zsD b),.one (C3 l)] (.part (bP true)):=by
 refine AI 133 Try.func6 rfl rfl rfl fun w D=>?_
 try refine A2 ?_
 refine A0 (A8 rfl rfl rfl rfl rfl .nil) ?_
 try refine A2 ?_
 refine A0 (A3 rfl rfl rfl (AJ rfl (by kernel_rfl) (L3) trivial) (A3 rfl rfl rfl (D1 rfl (kn rfl)) .nil)) ?_
 try refine A2 ?_
 refine N0 ?_
 by_cases hf:MX l
 case neg=>
  have hof:=N9 l hln hf
  try refine A2 ?_
  refine A0 (A5 rfl rfl rfl rfl rfl (A3 rfl rfl rfl (AJ rfl (by kernel_rfl) (hof) ⟨(kn rfl),trivial⟩) (A5 rfl rfl rfl rfl rfl (A3 rfl rfl rfl (AV rfl (kn rfl) rfl) (A3 rfl rfl rfl (AV rfl (kn rfl) rfl) (A8 rfl rfl rfl rfl rfl (A8 rfl rfl rfl rfl rfl .nil))))))) ?_
  try refine A2 ?_
  refine A0 (A5 rfl rfl rfl rfl rfl (A3 rfl rfl rfl (D1 rfl (kn rfl)) (A5 rfl rfl rfl rfl rfl (Walk.gd _ rfl rfl rfl (fun h=>A7 rfl (kn rfl)) (Walk.gd _ rfl rfl rfl (fun h=>AF rfl (A1 rfl h) sle_22) (Walk.gd _ rfl rfl rfl (fun h=>A4 rfl (A1 rfl h) (kn rfl) CC) (A3 rfl rfl rfl (EC rfl (kn rfl) (fun hb=>A1 rfl hb)) (A5 rfl rfl rfl rfl rfl (Walk.gd _ rfl rfl rfl (fun h=>A7 rfl (kn rfl)) (Walk.gd _ rfl rfl rfl (fun h=>AF rfl (A1 rfl h) sle_22) (Walk.gd _ rfl rfl rfl (fun h=>A4 rfl (A1 rfl h) (kn rfl) CC) (A3 rfl rfl rfl (EC rfl (kn rfl) (fun hb=>A1 rfl hb)) .nil)))))))))))) ?_
  try refine A2 ?_
  refine KY ?_
  try refine A2 ?_
  refine A0 (A8 rfl rfl rfl rfl rfl .nil) ?_
  try refine A2 ?_
  exact A9 rfl rfl (.tmp (kn rfl) (.nil)) (Imp.refl _) rfl
 have hof:=MI l hln hf
 try refine A2 ?_
 refine A0 (A5 rfl rfl rfl rfl rfl (A3 rfl rfl rfl (AJ rfl (by kernel_rfl) (hof) ⟨(kn rfl),trivial⟩) (A5 rfl rfl rfl rfl rfl (A3 rfl rfl rfl (AV rfl (kn rfl) rfl) (A3 rfl rfl rfl (AV rfl (kn rfl) rfl) (A8 rfl rfl rfl rfl rfl (A8 rfl rfl rfl rfl rfl .nil))))))) ?_
 try refine A2 ?_
 refine A0 (A5 rfl rfl rfl rfl rfl (A3 rfl rfl rfl (D1 rfl (kn rfl)) (A5 rfl rfl rfl rfl rfl (Walk.gd _ rfl rfl rfl (fun h=>A7 rfl (kn rfl)) (Walk.gd _ rfl rfl rfl (fun h=>AF rfl (A1 rfl h) sle_22) (Walk.gd _ rfl rfl rfl (fun h=>A4 rfl (A1 rfl h) (kn rfl) CC) (A3 rfl rfl rfl (EC rfl (kn rfl) (fun hb=>A1 rfl hb)) (A5 rfl rfl rfl rfl rfl (Walk.gd _ rfl rfl rfl (fun h=>A7 rfl (kn rfl)) (Walk.gd _ rfl rfl rfl (fun h=>AF rfl (A1 rfl h) sle_22) (Walk.gd _ rfl rfl rfl (fun h=>A4 rfl (A1 rfl h) (kn rfl) CC) (A3 rfl rfl rfl (EC rfl (kn rfl) (fun hb=>A1 rfl hb)) .nil)))))))))))) ?_
 try refine A2 ?_
 refine AA rfl (fun h=>?_) (fun h=>?_)
 ·try refine A2 ?_
  refine A0 (A8 rfl rfl rfl rfl rfl .nil) ?_
  try refine A2 ?_
  exact A9 rfl rfl (.tmp (kn rfl) (.nil)) (Imp.refl _) rfl
 rw[Bool.or_eq_false_iff,Bool.or_eq_false_iff]at h
 have hl40:l.length<=40:=by have:=h.1.1;simp only[Bool.not_eq_false',decide_eq_true_eq]at this;omega
 have ha:=gt_60 h.1.2
 have hb:=gt_60 h.2
 clear h
 have hne:edL a b<=400:=by have:=MJ a b;omega
 have hse:=JY a
 have hal:=E9 a b (by omega) (by omega)
 have hdi:=D7 a b (by omega) (by omega)
 have hdj:=D7 b a (by omega) (by omega)
 have hco:=JJ a b (by omega) (by omega)
 have how:=E9 a a (by omega) (by omega)
 rw[KD a (by omega)]at how
 rw[GC hne]at hdi
 rw[GC (by rw[H8];exact hne),H8]at hdj
 rw[HP hne]at hal hco
 obtain⟨e1,e2,e3,e4⟩:=GM a b
 obtain⟨hok,hex⟩:=E1 (stL a b)
 have hadj:=JQ (stL a b)
 have hrr:=FG e4
 have hed:=H3 (B4 (stL a b)) (by have:=D8 (stL a b);omega)
 have hes:CB edR (B4 (stL a b))=(edL a b:Int):=by
  rw[I0 _ fun p hp=>⟨List.all_eq_true.1 hrr p hp,by have:=E2 hp;omega⟩,hex,e1]
 rw[hes]at hed
 have hwa:=K4 (B4 (stL a b)) a b (by have:=D8 (stL a b);omega) (by omega) (by omega)
 rw[KA e4,decide_eq_true (EK _ a b (Nat.le_refl _))]at hwa
 have hrl:=D8 (stL a b)
 have hwl:=K4 l a b (by omega) (by omega) (by omega)
 have hel:=H3 l (by omega)
 have hmin:CV l a b=true->(edL a b:Int)<=CB edR l:=fun h=>by
  have h0:=h
  unfold CV at h
  rw[Bool.and_eq_true,decide_eq_true_eq]at h
  rw[I0 l fun p hp=>⟨List.all_eq_true.1 h.1 p hp,by have:=hf p hp;omega⟩]
  have:=DF (ex l) a b h.2
  omega
 have hkk:=NP (stL a b)
 generalize hr:B4 (stL a b)=r at hal hok hadj hrr hed hwa hrl
 try refine A2 ?_
 refine A0 (A5 rfl rfl rfl rfl rfl (A5 rfl rfl rfl rfl rfl (A3 rfl rfl rfl (AJ rfl (by kernel_rfl) (hal) ⟨(kn rfl),⟨(kn rfl),trivial⟩⟩) (A8 rfl rfl rfl rfl rfl .nil)))) ?_
 try refine A2 ?_
 refine A0 (A5 rfl rfl rfl rfl rfl (A3 rfl rfl rfl (AJ rfl (by kernel_rfl) (hed) ⟨(kn rfl),trivial⟩) (A8 rfl rfl rfl rfl rfl .nil))) ?_
 try refine A2 ?_
 refine A0 (A5 rfl rfl rfl rfl rfl (A5 rfl rfl rfl rfl rfl (A5 rfl rfl rfl rfl rfl (A3 rfl rfl rfl (AJ rfl (by kernel_rfl) (hwa) ⟨(kn rfl),⟨(kn rfl),⟨(kn rfl),trivial⟩⟩⟩) (A3 rfl rfl rfl (D1 rfl (kn rfl)) (A5 rfl rfl rfl rfl rfl (Walk.gd _ rfl rfl rfl (fun h=>A7 rfl (kn rfl)) (Walk.gd _ rfl rfl rfl (fun h=>A7 rfl (kn rfl)) (Walk.gd _ rfl rfl rfl (fun h=>A7 rfl (kn rfl)) (Walk.gd _ rfl rfl rfl (fun h=>AJ rfl (by kernel_rfl) (hdi) ⟨(A1 rfl h),⟨(A1 rfl h),trivial⟩⟩) (Walk.gd _ rfl rfl rfl (fun h=>A4 rfl (A1 rfl h) (A1 rfl h) EN) (A3 rfl rfl rfl (EC rfl (kn rfl) (fun hb=>A1 rfl hb)) (A5 rfl rfl rfl rfl rfl (Walk.gd _ rfl rfl rfl (fun h=>A7 rfl (kn rfl)) (Walk.gd _ rfl rfl rfl (fun h=>A7 rfl (kn rfl)) (Walk.gd _ rfl rfl rfl (fun h=>A7 rfl (kn rfl)) (Walk.gd _ rfl rfl rfl (fun h=>AJ rfl (by kernel_rfl) (hdj) ⟨(A1 rfl h),⟨(A1 rfl h),trivial⟩⟩) (Walk.gd _ rfl rfl rfl (fun h=>A4 rfl (A1 rfl h) (A1 rfl h) EN) (A3 rfl rfl rfl (EC rfl (kn rfl) (fun hb=>A1 rfl hb)) (A5 rfl rfl rfl rfl rfl (Walk.gd _ rfl rfl rfl (fun h=>A7 rfl (kn rfl)) (Walk.gd _ rfl rfl rfl (fun h=>A7 rfl (kn rfl)) (Walk.gd _ rfl rfl rfl (fun h=>AF rfl (A1 rfl h) sle_22) (Walk.gd _ rfl rfl rfl (fun h=>A7 rfl (kn rfl)) (Walk.gd _ rfl rfl rfl (fun h=>AF rfl (A1 rfl h) sle_22) (Walk.gd _ rfl rfl rfl (fun h=>A4 rfl (A1 rfl h) (A1 rfl h) (AP (by first | omega | (dsimp only;omega)))) (Walk.gd _ rfl rfl rfl (fun h=>A7 rfl (kn rfl)) (Walk.gd _ rfl rfl rfl (fun h=>A7 rfl (kn rfl)) (Walk.gd _ rfl rfl rfl (fun h=>AJ rfl (by kernel_rfl) (hco) ⟨(A1 rfl h),⟨(A1 rfl h),trivial⟩⟩) (Walk.gd _ rfl rfl rfl (fun h=>A4 rfl (kn rfl) (A1 rfl h) (GV (by first | omega | (dsimp only;omega)))) (Walk.gd _ rfl rfl rfl (fun h=>A4 rfl (A1 rfl h) (A1 rfl h) (AL (by first | omega | (dsimp only;omega)))) (Walk.gd _ rfl rfl rfl (fun h=>A4 rfl (A1 rfl h) (A1 rfl h) EN) (A3 rfl rfl rfl (EC rfl (kn rfl) (fun hb=>A1 rfl hb)) .nil))))))))))))))))))))))))))))))))) ?_
 try refine A2 ?_
 have hb8:((((!true) || !decide ((edL a b:Int)=(edL a b:Int))) || !decide ((edL a b:Int)=(edL a b:Int))) || !decide ((edL a b:Int)=(a.length:Int)+(b.length:Int)-2*(nK (stL a b):Int)))=false:=by
  rw[decide_eq_true rfl,decide_eq_true (show(edL a b:Int)=(a.length:Int)+(b.length:Int)-2*(nK (stL a b):Int) by omega)]
  rfl
 refine AA rfl (fun h1=>absurd (hb8.symm.trans h1) (by decide)) (fun _=>?_)
 try refine A2 ?_
 refine A0 (A5 rfl rfl rfl rfl rfl (A3 rfl rfl rfl (AF rfl (kn rfl) sle_28) (A5 rfl rfl rfl rfl rfl .nil))) ?_
 try refine A2 ?_
 refine BK (ι:={ i:Nat // i<=r.length })
  (fun i=>[(0,.part (.one (zsD a))),(1,.part (.one (zsD b))),(2,.part (.one (C3 l))),(9,.part (.one (C3 r))),(10,zI (edL a b:Int)),(71,.part (.one (C3 r))),(72,zI (r.length:Int)),(73,zI (i.1:Int))])
  (fun _=>[]) (fun _=>[]) (fun i=>r.length-i.1) ⟨0,Nat.zero_le _⟩
  (fun K=>AT ⟨s_t,s_t,s_t,s_t,s_t,s_t,s_t,s_t,trivial⟩ trivial trivial) ?_
 rintro⟨i,hi⟩
 dsimp only at hi ⊢
 try refine A2 ?_
 refine A0 (A3 rfl rfl rfl (A4 rfl (kn rfl) (kn rfl) CK) .nil) ?_
 try refine A2 ?_
 refine AA rfl (fun h=>?_) (fun h=>?_)
 ·have hlt:=ltd h
  obtain⟨⟨k,c⟩,hp⟩:∃ p,r[i]?=some p:=⟨_,List.getElem?_eq_getElem hlt⟩
  obtain⟨⟨k',c'⟩,hq⟩:∃ q,0<i->r[((i:Int)-1).toNat]?=some q:=⟨r.getD (i-1) (0,0),fun h0=>by rw[show((i:Int)-1).toNat=i-1 by omega,List.getD_eq_getElem?_getD,List.getElem?_eq_getElem (by omega)];rfl⟩
  have hc1:1<=c:=hok _ (List.mem_of_getElem? hp)
  have hdk:0<i->k'≠k:=fun h0=>by
   have h2:=hq h0
   rw[show((i:Int)-1).toNat=i-1 by omega]at h2
   exact hadj (i-1) _ _ h2 (by rw[show i-1+1=i by omega];exact hp)
  have p0:(!decide (c<1)&&decide ((0:Int)<(i:Int)))=true->0<i:=fun h=>by have:=of_decide_eq_true (gr h);omega
  try refine A2 ?_
  refine AK ?_
  refine AM ?_
  refine AO (AQ rfl (kn rfl) (kn rfl) (by omega) hp BM sle_28 esz_28 rfl) ?_
  refine AO (B3 rfl (kn rfl) agg_45 sz_45) ?_
  refine CS 12 [.is (.int .i64 0),.is (.int .i64 0)] rfl rfl rfl rfl zr_45 (fun w D M V=>⟨rfl,fun j x v h1 h2=>CQ _ h1 h2 rfl⟩) rfl rfl rfl rfl ?_
  refine BA ?_
  refine C8 rfl rfl rfl (kn rfl) rfl (kn rfl) rfl rfl sz_45 ?_
  refine AB ?_
  try refine A2 ?_
  refine C0 C9 (by kernel_rfl) (A3 rfl rfl rfl (AE rfl (kn rfl) off_45_1) (A3 rfl rfl rfl (AD rfl (kn rfl) rfl rfl one_3) (A3 rfl rfl rfl (A4 rfl (kn rfl) (kn rfl) CK) (A5 rfl rfl rfl rfl rfl (Walk.gd _ rfl rfl rfl (fun h=>A7 rfl (kn rfl)) (Walk.gd _ rfl rfl rfl (fun h=>A4 rfl (A1 rfl h) (kn rfl) CC) (Walk.gd _ rfl rfl rfl (fun h=>A7 rfl (A1 rfl h)) (Walk.gd _ rfl rfl rfl (fun h=>A7 rfl (kn rfl)) (Walk.gd _ rfl rfl rfl (fun h=>A7 rfl (kn rfl)) (Walk.gd _ rfl rfl rfl (fun h=>A4 rfl (A1 rfl h) (kn rfl) (AL (by first | omega | (dsimp only;omega)))) (Walk.gd _ rfl rfl rfl (fun h=>AQ rfl (A1 rfl h) (A1 rfl h) (by have:=p0 h;omega) (hq (p0 h)) BM sle_28 esz_28 rfl) (Walk.gd _ rfl rfl rfl (fun h=>HD rfl (A1 rfl h) off_45_0) (Walk.gd _ rfl rfl rfl (fun h=>AH rfl (A1 rfl h) one_3) (Walk.gd _ rfl rfl rfl (fun h=>AE rfl (kn rfl) off_45_0) (Walk.gd _ rfl rfl rfl (fun h=>AD rfl (A1 rfl h) rfl rfl one_3) (Walk.gd _ rfl rfl rfl (fun h=>A4 rfl (A1 rfl h) (A1 rfl h) B5) (Walk.gd _ rfl rfl rfl (fun h=>BC rfl (A1 rfl h) (fun hb=>A1 rfl (gb h hb))) (A3 rfl rfl rfl (EC rfl (kn rfl) (fun hb=>A1 rfl hb)) .nil)))))))))))))))))) ?_
  try refine A2 ?_
  have hb13:(decide (c<1)||(decide ((0:Int)<(i:Int))&&decide (k'=k)))=false:=by
   rw[decide_eq_false (show ¬ c<1 by omega),Bool.false_or]
   cases hd:decide ((0:Int)<(i:Int))with
   | false=>rfl
   | true=>
    rw[Bool.true_and]
    exact decide_eq_false (hdk (by have:=of_decide_eq_true hd;omega))
  refine AA rfl (fun h1=>absurd (hb13.symm.trans h1) (by decide)) (fun _=>?_)
  try refine A2 ?_
  refine A0 (A3 rfl rfl rfl (A4 rfl (kn rfl) (kn rfl) (AP (by first | omega | (dsimp only;omega)))) (A5 rfl rfl rfl rfl rfl .nil)) ?_
  try refine A2 ?_
  refine AX ⟨i+1,hlt⟩ (by dsimp only;omega) (fun K=>AT ⟨s_t,s_t,s_t,s_t,s_t,s_t,s_t,s_t,trivial⟩ trivial trivial)
 have hw0:0<a.length->BD [] 1 (a.length:Int)=[(1,(a.length:Int))]:=fun h=>BV (by omega)
 have hw1:a.length=0->BD [] 1 (a.length:Int)=[]:=fun h=>by rw[h];exact B7 _ _
 have hw2:=E6 [] 1 (a.length:Int)
 generalize BD [] 1 (a.length:Int)=w at how hw0 hw1 hw2
 have hsw:=IR w [(1,(a.length:Int))] (by simp only[List.length_nil]at hw2;omega) (by simp)
 have hb17:((decide ((0:Int)<(a.length:Int)) && !decide (w=[(1,(a.length:Int))]))||(decide ((a.length:Int)=0) && !decide ((w.length:Int)=0)))=false:=by
  rcases Nat.eq_zero_or_pos a.length with h0 | h0
  ·rw[hw1 h0,decide_eq_false (show ¬ (0:Int)<(a.length:Int) by omega)]
   simp
  ·rw[hw0 h0,decide_eq_true rfl,decide_eq_false (show ¬ (a.length:Int)=0 by omega)]
   simp
 try refine A2 ?_
 refine A0 (A5 rfl rfl rfl rfl rfl (A5 rfl rfl rfl rfl rfl (A3 rfl rfl rfl (AJ rfl (by kernel_rfl) (how) ⟨(kn rfl),⟨(kn rfl),trivial⟩⟩) (A8 rfl rfl rfl rfl rfl .nil)))) ?_
 try refine A2 ?_
 refine A0 (A5 rfl rfl rfl rfl rfl (A3 rfl rfl rfl (AF rfl (kn rfl) sle_22) (A3 rfl rfl rfl (A4 rfl (kn rfl) (kn rfl) CC) (A5 rfl rfl rfl rfl rfl (Walk.gd _ rfl rfl rfl (fun h=>A7 rfl (kn rfl)) (Walk.gd _ rfl rfl rfl (fun h=>A7 rfl (kn rfl)) (Walk.gd _ rfl rfl rfl (fun h=>AF rfl (A1 rfl h) sle_22) (Walk.gd _ rfl rfl rfl (fun h=>CD (ds:=[_,_]) [(0,_),(1,_)] rfl ⟨rfl,(kn rfl),⟨rfl,(A1 rfl h),trivial⟩⟩ rfl pl_39 zr_39 (fun w D=>.cons (.cell _) (.cons (.cell _) (.nil _ _))) rfl) (Walk.gd _ rfl rfl rfl (fun h=>AN (ds:=[_,_]) [(0,_)] rfl ⟨rfl,(A1 rfl h),trivial⟩ rfl sl_30 sz_39 zr_39 (fun w D=>.cons (.cell _) (.cons (.cell _) (.nil _ _))) rfl rfl rfl rfl rfl) (Walk.gd _ rfl rfl rfl (fun h=>AJ rfl (by kernel_rfl) (hsw) ⟨(A1 rfl h),⟨(A1 rfl h),trivial⟩⟩) (Walk.gd _ rfl rfl rfl (fun h=>D1 rfl (A1 rfl h)) (A3 rfl rfl rfl (BC rfl (kn rfl) (fun hb=>A1 rfl hb)) (A5 rfl rfl rfl rfl rfl (Walk.gd _ rfl rfl rfl (fun h=>A7 rfl (kn rfl)) (Walk.gd _ rfl rfl rfl (fun h=>AF rfl (A1 rfl h) sle_22) (Walk.gd _ rfl rfl rfl (fun h=>A4 rfl (A1 rfl h) (kn rfl) B5) (Walk.gd _ rfl rfl rfl (fun h=>A7 rfl (A1 rfl h)) (Walk.gd _ rfl rfl rfl (fun h=>A7 rfl (kn rfl)) (Walk.gd _ rfl rfl rfl (fun h=>AF rfl (A1 rfl h) sle_28) (Walk.gd _ rfl rfl rfl (fun h=>A4 rfl (A1 rfl h) (kn rfl) EN) (Walk.gd _ rfl rfl rfl (fun h=>BC rfl (A1 rfl h) (fun hb=>A1 rfl (gb h hb))) (A3 rfl rfl rfl (EC rfl (kn rfl) (fun hb=>A1 rfl hb)) .nil)))))))))))))))))))))) ?_
 try refine A2 ?_
 refine AA rfl (fun h1=>absurd (hb17.symm.trans h1) (by decide)) (fun _=>?_)
 try refine A2 ?_
 refine A0 (A5 rfl rfl rfl rfl rfl (A5 rfl rfl rfl rfl rfl (A5 rfl rfl rfl rfl rfl (A3 rfl rfl rfl (AJ rfl (by kernel_rfl) (hwl) ⟨(kn rfl),⟨(kn rfl),⟨(kn rfl),trivial⟩⟩⟩) (A3 rfl rfl rfl (D1 rfl (kn rfl)) (A5 rfl rfl rfl rfl rfl (Walk.gd _ rfl rfl rfl (fun h=>A7 rfl (kn rfl)) (Walk.gd _ rfl rfl rfl (fun h=>AJ rfl (by kernel_rfl) (hel) ⟨(A1 rfl h),trivial⟩) (Walk.gd _ rfl rfl rfl (fun h=>A7 rfl (kn rfl)) (Walk.gd _ rfl rfl rfl (fun h=>A4 rfl (A1 rfl h) (A1 rfl h) G0) (A3 rfl rfl rfl (EC rfl (kn rfl) (fun hb=>A1 rfl hb)) (A8 rfl rfl rfl rfl rfl .nil)))))))))))) ?_
 try refine A2 ?_
 have hfin:(!CV l a b||decide ((edL a b:Int)<=CB edR l))=true:=by
  cases hw:CV l a b with
  | false=>rfl
  | true=>exact decide_eq_true (hmin hw)
 exact A9 rfl rfl (.tmp (kn rfl) (.nil)) (D2 hfin) rfl
section
theorem KX{α:Type}{f:α->List Dat}{k:Nat}(hk:∀ a,(f a).length=k){qs:List α}{i r:Nat}{a:α}(ha:qs[i]?=some a)(hr:r<k):(qs.flatMap f)[i*k+r]?=(f a)[r]?:=by
 have h:=EA hk qs i a ha
 rw[<- h,List.getElem?_take,if_pos hr,List.getElem?_drop]
def Old(w:World):Nat->Prop:=fun g=>g<w.heap.size
section
variable{H:Type}{enc:TypeId×Value->H}{P:Program}{w:World}{base:Nat}{spare:Nat->Bool}{held:Bool}{fuel:Nat}{t:TypeId}{cs:List Value}{x:DataW H×List MemPlace}
theorem H1{e:TypeId}(ht:P.underlying t=some (.slice e)){k:Nat}(hk0:0<k)(hke:P.cellsOf e=k){α:Type}[Inhabited α]{f:α->List Dat}(hk:∀ a,(f a).length=k){F:α->Prop}
  (elem:∀ n,n<fuel -> ∀ cs x,DataW.trod enc P w base spare held n e cs=some x -> ∃ a,Fits w (Old w) (f a) cs/\F a) (h:DataW.trod enc P w base spare held fuel t cs=some x):
  ∃ p,∃ qs:List α,∃ c,cs=[.slice p qs.length c]/\Lies w (Old w) (.row k qs.length (qs.flatMap f)) (.slice p qs.length c)/\(∀ a∈qs,F a)/\qs.length<=c/\c<=maxLen:=by
 rcases DataW.trod_slice ht h with⟨rfl,_⟩ | ⟨ad,len,cap,elems,rest,n,rfl,rfl,_,hb,hl,hm,hlen,hel,_,_⟩
 ·exact⟨none,[],0,rfl,.none _ _ _,by simp,by simp,by simp⟩
 ·rw[hke]at hel
  have hone:∀ i,i<len -> ∃ y:α×List Value,Fits w (Old w) (f y.1) y.2/\F y.1 /\ ∀ j,j<k->w.cell? (ad.add (i*k+j))=y.2[j]?:=fun i hi=>by
   have key:=hel i hi
   rw[List.getElem?_eq_getElem (by omega)]at key
   obtain⟨cs',h1,h2⟩:=Option.bind_eq_some_iff.1 key
   obtain⟨a,hF,hA⟩:=elem n (by omega) cs' _ h2
   obtain⟨_,_,hat⟩:=World.cells?_some h1
   exact⟨(a,cs'),hF,hA,fun j hj=>by rw[<- Go.Deep.add_add];exact hat j hj⟩
  obtain⟨Y,hY⟩:=Go.Deep.choose_lt (α:=α×List Value) (p:=fun i y=>Fits w (Old w) (f y.1) y.2/\F y.1 /\ ∀ j,j<k->w.cell? (ad.add (i*k+j))=y.2[j]?) hone
  have hlen':((List.range len).map fun i=>(Y i).1).length=len:=by simp
  have hget:∀ i,i<len->((List.range len).map fun i=>(Y i).1)[i]?=some (Y i).1:=fun i hi=>by rw[List.getElem?_map,List.getElem?_range hi];rfl
  refine⟨some ad,(List.range len).map fun i=>(Y i).1,cap,by rw[hlen'],?_,fun a ha=>?_,by omega,hm⟩
  ·rw[hlen']
   rcases Nat.eq_zero_or_pos len with h0 | h0
   ·subst h0
    exact .none _ _ _
   obtain⟨b,o,s⟩:=ad
   have hcell:∀ i,i<len -> ∀ j,j<k -> ∃ v,(Y i).2[j]?=some v:=fun i hi j hj=>by
    have hl':=(hY i hi).1.1
    rw[hk]at hl'
    exact⟨_,List.getElem?_eq_getElem (by omega)⟩
   obtain rfl:s=none:=by
    obtain⟨v,hv⟩:=hcell 0 h0 0 hk0
    have:=(hY 0 h0).2.2 0 hk0
    rw[hv]at this
    simpa[Addr.add]using World.cell?_spot this
   have hb':b<w.heap.size:=by
    obtain⟨v,hv⟩:=hcell 0 h0 0 hk0
    have:=(hY 0 h0).2.2 0 hk0
    rw[hv]at this
    have:=World.block_lt_of_cell? _ _ this
    simpa[Addr.add_lit]using this
   have hfl:((((List.range len).map fun i=>(Y i).1)).flatMap f).length=len*k:=by rw[FQ hk,hlen']
   refine .row k len b o cap _ (fun j=>((Y (j / k)).2[j % k]?).getD default) h0 (by omega) hfl hb' (fun j hj=>?_) fun j d hd=>?_
   ·rw[hfl]at hj
    have hi:j / k<len:=Nat.div_lt_of_lt_mul (by rw[Nat.mul_comm];exact hj)
    have hr:j % k<k:=Nat.mod_lt _ hk0
    obtain⟨v,hv⟩:=hcell _ hi _ hr
    have:=(hY _ hi).2.2 _ hr
    rw[Addr.add_lit,Nat.div_add_mod' j k]at this
    rw[this,hv]
    rfl
   ·have hj:j<len*k:=by rw[<- hfl];exact(List.getElem?_eq_some_iff.1 hd).1
    have hi:j / k<len:=Nat.div_lt_of_lt_mul (by rw[Nat.mul_comm];exact hj)
    have hr:j % k<k:=Nat.mod_lt _ hk0
    obtain⟨v,hv⟩:=hcell _ hi _ hr
    rw[<- Nat.div_add_mod' j k,KX hk (hget _ hi) hr]at hd
    show Lies w (Old w) d (((Y (j / k)).2[j % k]?).getD default)
    rw[hv]
    exact(hY _ hi).1.2 _ d v hd hv
  ·obtain⟨i,hi,rfl⟩:=List.mem_map.1 ha
   exact(hY i (by simpa using hi)).2.1
end
end
section
open Go.ChangeShapes Go.WideShapes Go.ChangeAt Go.RowKit
section
variable{H:Type}{enc:TypeId×Value->H}{P:Program}
theorem E7(hl:laidOutB P=true){W W':World}(hb:Below W.heap.size W W'){sp:Nat->Bool}:∀ {ts:List TypeId} {vs:List Value} {ds:List (DataW H)} {ps:List MemPlace},
  (ts.all fun t=>P.readableRec t&&decide (t<P.types.size))=true->DataW.TrodAll enc P W 0 (fun _=>true) true ts vs ds ps->(∀ p∈ps,p.block<W.heap.size)->(∀ p∈ps,sp p.block=true) ->
  DataW.TrodAll enc P W' 0 sp true ts vs ds ps
 | [],_,_,_,_,h,_,_=>by
  obtain⟨rfl,rfl,rfl⟩:=trodAll_nil h
  exact trodAll_mk0
 | t::ts,_,_,_,ht,h,hlt,hsp=>by
  simp only[List.all_cons,Bool.and_eq_true,decide_eq_true_eq]at ht
  obtain⟨v,vs,d,ds,p,q,rfl,rfl,rfl,h0,hr⟩:=trodAll_cons h
  exact trodAll_cons_mk (WideElems.Trod_stays hl ht.1.1 ht.1.2 h0 (fun x hx=>hb.same (hlt x (List.mem_append_left _ hx))) (fun x hx=>hsp x (List.mem_append_left _ hx)))
   (E7 hl hb ht.2 hr (fun x hx=>hlt x (List.mem_append_right _ hx)) (fun x hx=>hsp x (List.mem_append_right _ hx)))
theorem KC{f:Func}{s:ChangeSpec}{W W':World}{args:Array Value}{ds:List (DataW H)}{before:List MemPlace}
  (hl:laidOutB P=true) (ht:(f.params.toList.all fun t=>P.readableRec t&&decide (t<P.types.size))=true)
  (hvars:s.vars=[]) (hs:s.fn H (ds++[])={ results:=[.lit (.bool true)],args:=ds }) {tb:TypeId} (hres:f.resultTypes = #[tb]) (hbool:P.underlying tb=some .bool)
  (hW:DataW.Whole enc P f.params.toList s.vars false W args.toList ds [] before)
  (hA:DataW.TrodAll enc P W 0 (fun _=>true) true f.params.toList args.toList ds before) (hb:Below W.heap.size W W'):
  s.post enc P f false true false false W args (.bool true) W':=by
 have hlt:∀ p∈before,p.block<W.heap.size:=fun p hp=>hW.lt p hp
 have e1:(Value.bool true).resultList f.resultTypes.size=[Value.bool true]:=by rw[hres];rfl
 refine⟨ds,[],before,[],before,[],hW,?_,?_,?_,World.keptBut_mono (fun p hp=>⟨hp,by simpa using hp⟩) (hb.frame (· ∈ before)),fun h=>by cases h⟩
 ·rw[hs,e1,hres]
  exact trodAll_mk1 (shut_bool hbool _)
 ·rw[hs]
  exact E7 hl hb ht hA hlt (fun p hp=>by simpa using hlt p hp)
 ·rw[hs,hvars]
  rfl
end
end
section
open Go.ChangeShapes Go.WideShapes Go.ChangeAt Go.RowKit
section
variable{H:Type}{enc:TypeId×Value->H}{w:World}{base:Nat}{spare:Nat->Bool}{held:Bool}
theorem IC:Try.prog.cellsOf 3=1:=by kernel_rfl
theorem IZ:Try.prog.cellsOf 45=2:=by kernel_rfl
theorem LM:Try.prog.bytesOf 45=16:=by kernel_rfl
theorem J4{r:Reach}{b0:Nat}{v:Value}{d:DataW H}{ps:List MemPlace}(hval:Value.okWide Try.prog w r b0 22 v)(h:DataW.Trod enc Try.prog w base spare held 22 v d ps):
  ∃ (p:Option Addr) (l:List Int) (c:Nat),v=.slice p l.length c/\Lies w (Old w) (zsD l) (.slice p l.length c):=by
 obtain⟨a0,len,cap,rfl⟩:=okWide_slice Try.underlying22 hval
 obtain⟨fuel,hf⟩:=h
 obtain⟨p,qs,c,e,hl,_,_,_⟩:=H1 (f:=zD1) (F:=fun _:Int=>True) Try.underlying22 (by omega) IC AR (fun n hn cs x hx=>by
  obtain⟨z,e2,_⟩:=DataW.trod_int Try.underlying3 hx
  refine⟨z,?_,trivial⟩
  subst e2
  exact .cons (.cell _) (.nil _ _)) hf
 simp[Value.cells]at e
 obtain⟨rfl,rfl,rfl⟩:=e
 exact⟨_,qs,_,rfl,hl⟩
theorem JZ{r:Reach}{b0:Nat}{v:Value}{d:DataW H}{ps:List MemPlace}(hval:Value.okWide Try.prog w r b0 28 v)(h:DataW.Trod enc Try.prog w base spare held 28 v d ps)(hz:∀ n∈d.weights Try.prog 28,n<=reachBytes):
  ∃ (p:Option Addr) (l:List Rn) (c:Nat),v=.slice p l.length c/\Lies w (Old w) (C3 l) (.slice p l.length c)/\l.length<=8796093022208:=by
 obtain⟨a0,len,cap,rfl⟩:=okWide_slice Try.underlying28 hval
 obtain⟨fuel,hf⟩:=h
 have hlen:len<=8796093022208:=by
  rcases DataW.trod_slice Try.underlying28 hf with⟨e,_⟩ | ⟨ad,len',cap',elems,rest,n,_,e,ex,_,_,_,hle,_,_,_⟩
  ·simp[Value.cells]at e
   omega
  ·simp only[Value.cells,List.cons.injEq,Value.slice.injEq,and_true]at e
   injection ex with e1 _
   subst e1
   have:=hz ((elems.length+rest.length)*16) (by simp[DataW.weights,Try.underlying28,LM])
   have hr:=reachBytes_lt
   obtain⟨_,rfl,_⟩:=e
   omega
 obtain⟨p,qs,c,e,hl,_,_,_⟩:=H1 (f:=rnD) (F:=fun _:Rn=>True) Try.underlying28 (by omega) IZ BM (fun n hn cs x hx=>by
  obtain⟨xs,m,_,_,hcl,hxl,hall⟩:=DataW.trod_struct Try.underlying45 hx
  rw[IZ]at hcl
  match cs,hcl,xs,hxl with
  | [c0,c1],_,[y0,y1],_=>
   have h0:DataW.trod enc Try.prog w base spare held m 3 [c0]=some y0:=by simpa[IC]using hall 0 _ rfl
   have h1:DataW.trod enc Try.prog w base spare held m 3 [c1]=some y1:=by simpa[IC]using hall 1 _ rfl
   obtain⟨z0,e0,_⟩:=DataW.trod_int Try.underlying3 h0
   obtain⟨z1,e1,_⟩:=DataW.trod_int Try.underlying3 h1
   simp only[List.cons.injEq,and_true]at e0 e1
   subst e0 e1
   exact⟨(z0,z1),.cons (.cell _) (.cons (.cell _) (.nil _ _)),trivial⟩) hf
 simp[Value.cells]at e
 obtain⟨rfl,rfl,rfl⟩:=e
 exact⟨_,qs,_,rfl,hl,hlen⟩
theorem KP{ts:List TypeId}{ds:List (DataW H)}(h:(DataW.weightsEach Try.prog ts ds).all (· <= reachBytes)=true){j:Nat}{t:TypeId}{d:DataW H}(ht:ts[j]?=some t)(hd:ds[j]?=some d):∀ n∈d.weights Try.prog t,n<=reachBytes:=fun n hn=>by
 have:=List.all_eq_true.1 h _ (DataW.weights_mem_each ht hd n hn)
 simpa using this
end
theorem JG{P:Program}{f:FuncId}{ps:List Part}{v:Value}{w:World}{vs:List Value}(h:EF P [] f ps (.is v))(hp:PsFit w (Old w) ps vs):Calls P f vs.toArray w fun e w'=>e=.returned v/\Below w.heap.size w w':=
 (h w (Old w) vs (fun g hg=>hg) (fun _ _ h=>by cases h) hp).mono fun e w' ⟨u,y,h1,h2,h3,h4⟩=>by
  subst h2
  refine⟨?_,h3⟩
  rw[h1,VR.is_eq (h4 (fun _=>0) (fun _=>undef))]
end
end Go.Proofs.Ytjpghcmlglhmbaa
