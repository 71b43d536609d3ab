/- Part 15. Conditions: as each theorem says. -/
import Derived.Test.YtecfdcdkkgmkpaaIT14
import Derived.Test.YtecfdcdkkgmkpaaProg
set_option maxRecDepth 100000
namespace Go.Proofs.Ytecfdcdkkgmkpaa
open Go.RowKit
def D5(v:Vl):Prop:=EF Try.prog [] 88 [.many (vd v)] (.part (tP (vright v)))
theorem S1(f:Int×Vl)(hr:D5 f.2):EF Try.prog [] 103 [.many (fd f)] (.part (tP (fok f))):=by
 refine AF 17 Try.func103 rfl rfl rfl fun w D=>?_
 try refine A1 ?_
 refine AI ?_
 refine BS 1 rfl rfl rfl rfl (kn rfl) rfl rfl rfl rfl ?_
 refine C7 ?_
 refine AH ?_
 try refine A1 ?_
 refine A0 (A3 rfl rfl rfl (A4 rfl (kn rfl) off_97_0) (A3 rfl rfl rfl (A5 rfl (kn rfl) rfl rfl one_3) (A3 rfl rfl rfl (AG rfl (by kernel_rfl) (KH f.1) ⟨(kn rfl),trivial⟩) (A8 rfl rfl rfl rfl rfl (Walk.gd _ rfl rfl rfl (fun h=>A4 rfl (kn rfl) off_97_1) (Walk.gd _ rfl rfl rfl (fun h=>A4 rfl (A2 rfl h) off_27_0) (Walk.gd _ rfl rfl rfl (fun h=>A5 rfl (A2 rfl h) rfl rfl one_3) (Walk.gd _ rfl rfl rfl (fun h=>A9 rfl (A2 rfl h) (kn rfl) DP) (A3 rfl rfl rfl (AP rfl (kn rfl) (fun hb=>A2 rfl hb)) (A8 rfl rfl rfl rfl rfl (Walk.gd _ rfl rfl rfl (fun h=>A4 rfl (kn rfl) off_97_1) (Walk.gd _ rfl rfl rfl (fun h=>AB (ds:=[_,_,_,_,_,_,_]) 7 rfl (A2 rfl h) rfl rfl agg_27 sz_27 rfl) (Walk.gd _ rfl rfl rfl (fun h=>AG rfl (by kernel_rfl) (hr) ⟨(A2 rfl h),trivial⟩) (A3 rfl rfl rfl (AP rfl (kn rfl) (fun hb=>A2 rfl hb)) (AC rfl rfl rfl rfl rfl .nil))))))))))))))) ?_
 try refine A1 ?_
 exact A7 rfl rfl (.tmp (kn rfl) (.nil)) (AR rfl) rfl
theorem MT(x:Vl)(hr:D5 x):EF Try.prog [] 106 [.many (vd x)] (.part (tP (H8 x))):=by
 refine AF 15 Try.func106 rfl rfl rfl fun w D=>?_
 try refine A1 ?_
 refine AI ?_
 refine BS 1 rfl rfl rfl rfl (kn rfl) rfl rfl rfl rfl ?_
 refine C7 ?_
 refine AH ?_
 try refine A1 ?_
 refine A0 (A3 rfl rfl rfl (A4 rfl (kn rfl) off_27_0) (A3 rfl rfl rfl (A5 rfl (kn rfl) rfl rfl one_3) (A3 rfl rfl rfl (A9 rfl (kn rfl) (kn rfl) D7) (A8 rfl rfl rfl rfl rfl (Walk.gd _ rfl rfl rfl (fun h=>A4 rfl (kn rfl) off_27_0) (Walk.gd _ rfl rfl rfl (fun h=>A5 rfl (A2 rfl h) rfl rfl one_3) (Walk.gd _ rfl rfl rfl (fun h=>A9 rfl (A2 rfl h) (kn rfl) OB) (A3 rfl rfl rfl (AP rfl (kn rfl) (fun hb=>A2 rfl hb)) (A8 rfl rfl rfl rfl rfl (Walk.gd _ rfl rfl rfl (fun h=>AB (ds:=[_,_,_,_,_,_,_]) 7 rfl (kn rfl) rfl rfl agg_27 sz_27 rfl) (Walk.gd _ rfl rfl rfl (fun h=>AG rfl (by kernel_rfl) (hr) ⟨(A2 rfl h),trivial⟩) (A3 rfl rfl rfl (AP rfl (kn rfl) (fun hb=>A2 rfl hb)) (AC rfl rfl rfl rfl rfl .nil))))))))))))) ?_
 try refine A1 ?_
 exact A7 rfl rfl (.tmp (kn rfl) (.nil)) (AR rfl) rfl
theorem NX(p:Vl×Vl)(h1:D5 p.1)(h2:D5 p.2):EF Try.prog [] 114 [.many (pd p)] (.part (tP (vright p.1&&H8 p.2))):=by
 refine AF 11 Try.func114 rfl rfl rfl fun w D=>?_
 try refine A1 ?_
 refine AI ?_
 refine BS 1 rfl rfl rfl rfl (kn rfl) rfl rfl rfl rfl ?_
 refine C7 ?_
 refine AH ?_
 try refine A1 ?_
 refine A0 (A3 rfl rfl rfl (A4 rfl (kn rfl) off_101_0) (A3 rfl rfl rfl (AB (ds:=[_,_,_,_,_,_,_]) 7 rfl (kn rfl) rfl rfl agg_27 sz_27 rfl) (A3 rfl rfl rfl (AG rfl (by kernel_rfl) (h1) ⟨(kn rfl),trivial⟩) (A8 rfl rfl rfl rfl rfl (Walk.gd _ rfl rfl rfl (fun h=>A4 rfl (kn rfl) off_101_1) (Walk.gd _ rfl rfl rfl (fun h=>AB (ds:=[_,_,_,_,_,_,_]) 7 rfl (A2 rfl h) rfl rfl agg_27 sz_27 rfl) (Walk.gd _ rfl rfl rfl (fun h=>AG rfl (by kernel_rfl) (MT p.2 h2) ⟨(A2 rfl h),trivial⟩) (A3 rfl rfl rfl (AP rfl (kn rfl) (fun hb=>A2 rfl hb)) (AC rfl rfl rfl rfl rfl .nil))))))))) ?_
 try refine A1 ?_
 exact A7 rfl rfl (.tmp (kn rfl) (.nil)) (AR rfl) rfl
theorem VF(z:Int)(p:Vl×Vl)(h1:D5 p.1)(h2:D5 p.2):EG Try.prog [] 113 [.part (.many (pd p)),.box 3 0] (kB z) [] (YB z (pok z p)):=by
 refine DK 13 Try.func113 rfl rfl rfl fun w D bor mb=>?_
 try refine A1 ?_
 refine AI ?_
 refine BS 2 rfl rfl rfl rfl (kn rfl) rfl rfl rfl rfl ?_
 refine C7 ?_
 refine AH ?_
 try refine A1 ?_
 refine A0 (A3 rfl rfl rfl (A4 rfl (kn rfl) off_101_0) (A3 rfl rfl rfl (A4 rfl (kn rfl) off_27_0) (A3 rfl rfl rfl (A5 rfl (kn rfl) rfl rfl one_3) (A3 rfl rfl rfl (A5 rfl (kn rfl) rfl rfl one_3) (A3 rfl rfl rfl (A9 rfl (kn rfl) (kn rfl) AL) (A8 rfl rfl rfl rfl rfl (Walk.gd _ rfl rfl rfl (fun h=>AB (ds:=[_,_,_,_,_,_,_,_,_,_,_,_,_,_]) 14 rfl (kn rfl) rfl rfl agg_101 sz_101 rfl) (Walk.gd _ rfl rfl rfl (fun h=>AG rfl (by kernel_rfl) (NX p h1 h2) ⟨(A2 rfl h),trivial⟩) (A3 rfl rfl rfl (AP rfl (kn rfl) (fun hb=>A2 rfl hb)) (AC rfl rfl rfl rfl rfl .nil)))))))))) ?_
 try refine A1 ?_
 exact IZ (kB z) ([]) rfl (.tmp (kn rfl) (.nil)) (Imp.refl _) ⟨s_b,trivial⟩ trivial (⟨rfl,rfl,rfl⟩)
theorem LY(v:Vl)(hs:B7 v)(hv:v.pairs≠[])(hp:∀ p∈v.pairs,D5 p.1/\D5 p.2):EF Try.prog [] 107 [.many (vd v)] (.part (tP (DV v.pairs))):=by
 obtain⟨p0,hp0⟩:∃ p0,v.pairs[0]?=some p0:=⟨_,List.getElem?_eq_getElem (List.length_pos_iff.2 hv)⟩
 have e:DV v.pairs=((decide (p0.1.kind=1)||decide (p0.1.kind=2))&&(v.pairs.all (pok p0.1.kind)&&BI M9 v.pairs)):=by
  revert hp0
  cases v.pairs with
  | nil=>intro h;cases h
  | cons q ps=>
   intro h
   obtain rfl:q=p0:=by simpa using h
   rfl
 have hlen:=(F6 hs).2.2
 refine AF 25 Try.func107 rfl rfl rfl fun w D=>?_
 try refine A1 ?_
 refine AI ?_
 refine BS 1 rfl rfl rfl rfl (kn rfl) rfl rfl rfl rfl ?_
 refine C7 ?_
 refine AH ?_
 try refine A1 ?_
 refine AI ?_
 refine AK (A4 rfl (kn rfl) off_27_6) ?_
 refine AK (A5 rfl (kn rfl) rfl rfl one_25) ?_
 refine AK (AQ rfl (kn rfl) (kn rfl) (by omega) hp0 BY sle_25 esz_25 (CI p0)) ?_
 refine AK (A6 rfl (kn rfl) off_101_0) ?_
 refine AK (A6 rfl (kn rfl) off_27_0) ?_
 refine AK (AD rfl (kn rfl) one_3) ?_
 refine BD 3 [.is (.int .i64 0)] rfl rfl rfl rfl zr_3 (fun w D M V=>⟨rfl,fun j x v h1 h2=>BC _ h1 h2 rfl⟩) rfl rfl rfl rfl ?_
 refine BW rfl rfl rfl (kn rfl) rfl (kn rfl) rfl rfl sz_3 rfl ?_
 refine AH ?_
 try refine A1 ?_
 refine A0 (A3 rfl rfl rfl (A5 rfl (kn rfl) rfl rfl one_3) (A3 rfl rfl rfl (A9 rfl (kn rfl) (kn rfl) DP) (A8 rfl rfl rfl rfl rfl (Walk.gd _ rfl rfl rfl (fun h=>A5 rfl (kn rfl) rfl rfl one_3) (Walk.gd _ rfl rfl rfl (fun h=>A9 rfl (A2 rfl h) (kn rfl) DP) (A3 rfl rfl rfl (AP rfl (kn rfl) (fun hb=>A2 rfl hb)) .nil)))))) ?_
 try refine A1 ?_
 refine AE rfl (fun h1=>?_) (fun h1=>?_)
 ·have e2:DV v.pairs=false:=by
   rw[e]
   have h2:¬ p0.1.kind=1/\¬ p0.1.kind=2:=by simpa using h1
   rw[decide_eq_false h2.1,decide_eq_false h2.2]
   rfl
  try refine A1 ?_
  refine A0 (AC rfl rfl rfl rfl rfl .nil) ?_
  try refine A1 ?_
  exact A7 rfl rfl (.tmp (kn rfl) (.nil)) (AR e2.symm) rfl
 have e2:DV v.pairs=(v.pairs.all (pok p0.1.kind)&&BI M9 v.pairs):=by
  have h2:p0.1.kind=1\/p0.1.kind=2:=by
   rcases Decidable.em (p0.1.kind=1)with h | h
   ·exact .inl h
   ·refine .inr ?_
    have h3:¬ p0.1.kind=1->p0.1.kind=2:=by simpa using h1
    exact h3 h
  rw[e]
  rcases h2 with h2 | h2<;>rw[h2]<;>rfl
 try refine A1 ?_
 refine AI ?_
 refine AK (A4 rfl (kn rfl) off_27_6) ?_
 refine AK (A5 rfl (kn rfl) rfl rfl one_25) ?_
 refine AK (US (fs:=[]) (cs:=[.box 3 0]) rfl trivial ⟨(kn rfl),trivial⟩) ?_
 refine GZ rfl rfl rfl rfl (by kernel_rfl) (NC p0.1.kind v.pairs hlen (pok p0.1.kind) (fun x hx=>VF p0.1.kind x (hp x hx).1 (hp x hx).2)) ⟨rfl,trivial⟩ trivial ⟨(kn rfl),⟨(kn rfl),trivial⟩⟩ (YB.tidy) ?_
 rintro _ _ _ ⟨rfl,rfl,rfl⟩
 refine BM ?_
 refine GX rfl rfl rfl (fun h=>A4 rfl (kn rfl) off_27_6) ?_
 refine GX rfl rfl rfl (fun h=>A5 rfl (A2 rfl h) rfl rfl one_25) ?_
 refine GX rfl rfl rfl (fun h=>AG rfl (by kernel_rfl) (LS 100 (by kernel_rfl) v.pairs hlen M9 (fun x hx y hy=>PG x y (G5 x.1 (CY hs hx).1 y.1 (CY hs hy).1))) ⟨(A2 rfl h),⟨(kn rfl),trivial⟩⟩) ?_
 refine AK (AP rfl (kn rfl) (fun hb=>A2 rfl hb)) ?_
 refine C7 ?_
 refine AH ?_
 try refine A1 ?_
 exact A7 rfl rfl (.tmp (kn rfl) (.nil)) (AR e2.symm) rfl
set_option maxHeartbeats 1000000 in
theorem NS(v:Vl)(hs:B7 v)(hf:∀ f∈v.fields,D5 f.2)(hl:∀ x∈v.list,D5 x)(hp:∀ p∈v.pairs,D5 p.1/\D5 p.2):D5 v:=by
 unfold D5
 rw[OY]
 obtain⟨a1,a2,a3⟩:=F6 hs
 refine AF 43 Try.func88 rfl rfl rfl fun w D=>?_
 try refine A1 ?_
 refine AI ?_
 refine BS 1 rfl rfl rfl rfl (kn rfl) rfl rfl rfl rfl ?_
 refine C7 ?_
 refine AH ?_
 try refine A1 ?_
 refine A0 (A3 rfl rfl rfl (AB (ds:=[_,_,_,_,_,_,_]) 7 rfl (kn rfl) rfl rfl agg_27 sz_27 rfl) (A3 rfl rfl rfl (AG rfl (by kernel_rfl) (W3 v) ⟨(kn rfl),trivial⟩) (A3 rfl rfl rfl (DL rfl (kn rfl)) .nil))) ?_
 try refine A1 ?_
 refine AE rfl (fun h=>?_) (fun h=>?_)
 ·have e:GP v=false:=by
   unfold GP
   rw[show GE v=false by simpa using h]
   rfl
  try refine A1 ?_
  refine A0 (AC rfl rfl rfl rfl rfl .nil) ?_
  try refine A1 ?_
  exact A7 rfl rfl (.tmp (kn rfl) (.nil)) (AR e.symm) rfl
 have e:GP v=(if v.kind=0\/v.kind=1\/v.kind=2 then true else if v.kind=3 then v.fields.all fok&&BI JT v.fields else if v.kind=4 then decide (v.list≠[])&&v.list.all H8 else if v.kind=5 then DV v.pairs else false):=by
  unfold GP
  rw[show GE v=true by simpa using h]
  exact Bool.true_and _
 clear h
 try refine A1 ?_
 refine A0 (A3 rfl rfl rfl (A4 rfl (kn rfl) off_27_0) (A3 rfl rfl rfl (A5 rfl (kn rfl) rfl rfl one_3) .nil)) ?_
 try refine A1 ?_
 try refine A1 ?_
 refine A0 (A3 rfl rfl rfl (A9 rfl (kn rfl) (kn rfl) AL) (AC rfl rfl rfl rfl rfl .nil)) ?_
 try refine A1 ?_
 refine AE rfl (fun q0=>?_) (fun q0=>?_)
 ·try refine A1 ?_
  refine AE rfl (fun _=>?_) (fun h=>absurd (h.symm.trans q0) (by decide))
  try refine A1 ?_
  refine A0 (AC rfl rfl rfl rfl rfl .nil) ?_
  try refine A1 ?_
  exact A7 rfl rfl (.tmp (kn rfl) (.nil)) (AR (by rw[e];exact(if_pos (.inl (of_decide_eq_true q0))).symm)) rfl
 try refine A1 ?_
 refine A0 (A3 rfl rfl rfl (A9 rfl (kn rfl) (kn rfl) AL) (AC rfl rfl rfl rfl rfl .nil)) ?_
 try refine A1 ?_
 refine AE rfl (fun q1=>?_) (fun q1=>?_)
 ·try refine A1 ?_
  refine AE rfl (fun _=>?_) (fun h=>absurd (h.symm.trans q1) (by decide))
  try refine A1 ?_
  refine A0 (AC rfl rfl rfl rfl rfl .nil) ?_
  try refine A1 ?_
  exact A7 rfl rfl (.tmp (kn rfl) (.nil)) (AR (by rw[e];exact(if_pos (.inr (.inl (of_decide_eq_true q1)))).symm)) rfl
 try refine A1 ?_
 refine A0 (A3 rfl rfl rfl (A9 rfl (kn rfl) (kn rfl) AL) (AC rfl rfl rfl rfl rfl .nil)) ?_
 try refine A1 ?_
 try refine A1 ?_
 refine AE rfl (fun q2=>?_) (fun q2=>?_)
 ·try refine A1 ?_
  refine A0 (AC rfl rfl rfl rfl rfl .nil) ?_
  try refine A1 ?_
  exact A7 rfl rfl (.tmp (kn rfl) (.nil)) (AR (by rw[e];exact(if_pos (.inr (.inr (of_decide_eq_true q2)))).symm)) rfl
 have n0:=of_decide_eq_false q0
 have n1:=of_decide_eq_false q1
 have n2:=of_decide_eq_false q2
 rw[if_neg (by omega)]at e
 try refine A1 ?_
 refine A0 (A3 rfl rfl rfl (A9 rfl (kn rfl) (kn rfl) AL) (AC rfl rfl rfl rfl rfl .nil)) ?_
 try refine A1 ?_
 refine AE rfl (fun q3=>?_) (fun q3=>?_)
 ·rw[if_pos (of_decide_eq_true q3)]at e
  try refine A1 ?_
  refine A0 (A3 rfl rfl rfl (A4 rfl (kn rfl) off_27_3) (A3 rfl rfl rfl (A5 rfl (kn rfl) rfl rfl one_23) (A3 rfl rfl rfl (AG rfl (by kernel_rfl) (M4 103 (by kernel_rfl) v.fields a1 fok (fun x hx=>S1 x (hf x hx))) ⟨(kn rfl),⟨(kn rfl),trivial⟩⟩) (A8 rfl rfl rfl rfl rfl (Walk.gd _ rfl rfl rfl (fun h=>A4 rfl (kn rfl) off_27_3) (Walk.gd _ rfl rfl rfl (fun h=>A5 rfl (A2 rfl h) rfl rfl one_23) (Walk.gd _ rfl rfl rfl (fun h=>AG rfl (by kernel_rfl) (JU 99 (by kernel_rfl) v.fields a1 JT (fun x _ y _=>JO x y)) ⟨(A2 rfl h),⟨(kn rfl),trivial⟩⟩) (A3 rfl rfl rfl (AP rfl (kn rfl) (fun hb=>A2 rfl hb)) (AC rfl rfl rfl rfl rfl .nil))))))))) ?_
  try refine A1 ?_
  exact A7 rfl rfl (.tmp (kn rfl) (.nil)) (AR e.symm) rfl
 rw[if_neg (of_decide_eq_false q3)]at e
 try refine A1 ?_
 refine A0 (A3 rfl rfl rfl (A9 rfl (kn rfl) (kn rfl) AL) (AC rfl rfl rfl rfl rfl .nil)) ?_
 try refine A1 ?_
 refine AE rfl (fun q4=>?_) (fun q4=>?_)
 ·rw[if_pos (of_decide_eq_true q4)]at e
  try refine A1 ?_
  refine A0 (A3 rfl rfl rfl (A4 rfl (kn rfl) off_27_5) (A3 rfl rfl rfl (A5 rfl (kn rfl) rfl rfl one_24) (A3 rfl rfl rfl (AW rfl (kn rfl) sle_24) (A3 rfl rfl rfl (A9 rfl (kn rfl) (kn rfl) DQ) (A8 rfl rfl rfl rfl rfl (Walk.gd _ rfl rfl rfl (fun h=>A4 rfl (kn rfl) off_27_5) (Walk.gd _ rfl rfl rfl (fun h=>A5 rfl (A2 rfl h) rfl rfl one_24) (Walk.gd _ rfl rfl rfl (fun h=>AG rfl (by kernel_rfl) (PC 106 (by kernel_rfl) v.list a2 H8 (fun x hx=>MT x (hl x hx))) ⟨(A2 rfl h),⟨(kn rfl),trivial⟩⟩) (A3 rfl rfl rfl (AP rfl (kn rfl) (fun hb=>A2 rfl hb)) (AC rfl rfl rfl rfl rfl .nil)))))))))) ?_
  try refine A1 ?_
  exact A7 rfl rfl (.tmp (kn rfl) (.nil)) (AR (by rw[e];simp[Nat.pos_iff_ne_zero])) rfl
 rw[if_neg (of_decide_eq_false q4)]at e
 try refine A1 ?_
 refine A0 (A3 rfl rfl rfl (A9 rfl (kn rfl) (kn rfl) AL) (AC rfl rfl rfl rfl rfl .nil)) ?_
 try refine A1 ?_
 refine AE rfl (fun q5=>?_) (fun q5=>?_)
 ·rw[if_pos (of_decide_eq_true q5)]at e
  try refine A1 ?_
  refine A0 (A3 rfl rfl rfl (A4 rfl (kn rfl) off_27_6) (A3 rfl rfl rfl (A5 rfl (kn rfl) rfl rfl one_25) (A3 rfl rfl rfl (AW rfl (kn rfl) sle_25) (A3 rfl rfl rfl (A9 rfl (kn rfl) (kn rfl) DQ) (A8 rfl rfl rfl rfl rfl (Walk.gd _ rfl rfl rfl (fun h=>AB (ds:=[_,_,_,_,_,_,_]) 7 rfl (kn rfl) rfl rfl agg_27 sz_27 rfl) (Walk.gd _ rfl rfl rfl (fun h=>AG rfl (by kernel_rfl) (LY v hs (List.length_pos_iff.1 (by have:=of_decide_eq_true h;omega)) hp) ⟨(A2 rfl h),trivial⟩) (A3 rfl rfl rfl (AP rfl (kn rfl) (fun hb=>A2 rfl hb)) (AC rfl rfl rfl rfl rfl .nil))))))))) ?_
  try refine A1 ?_
  exact A7 rfl rfl (.tmp (kn rfl) (.nil)) (AR (by rw[e];cases hv:v.pairs<;>simp[DV])) rfl
 rw[if_neg (of_decide_eq_false q5)]at e
 try refine A1 ?_
 refine A0 (AC rfl rfl rfl rfl rfl .nil) ?_
 try refine A1 ?_
 exact A7 rfl rfl (.tmp (kn rfl) (.nil)) (AR e.symm) rfl
theorem F8(v:Vl)(hv:B7 v):D5 v:=by
 revert hv
 exact Vl.parts (P:=fun a=>B7 a->D5 a) (fun v hf hl hp ha=>NS v ha (fun f h=>hf f h (G9 ha h)) (fun x h=>hl x h (HX ha h)) (fun p h=>⟨(hp p h).1 (CY ha h).1,(hp p h).2 (CY ha h).2⟩)) v
theorem KQ:∀ {ps:List (Vl×Vl)} {k:Nat} {p:Vl×Vl},ps[k]?=some p->(CF ps)[2*k]?=some p.1/\(CF ps)[2*k+1]?=some p.2
 | [],_,_,h=>by simp at h
 | q::ps,0,p,h=>by
  obtain rfl:q=p:=by simpa using h
  rw[F3]
  exact⟨rfl,rfl⟩
 | q::ps,k+1,p,h=>by
  have h1:=KQ (ps:=ps) (k:=k) (p:=p) (by simpa using h)
  rw[F3,show 2*(k+1)=2*k+1+1 by omega]
  exact⟨by simpa using h1.1,by simpa using h1.2⟩
theorem FF(v:Vl):gkids v=v.fields.map (·.2)++(v.list++CF v.pairs):=rfl
theorem W0{v:Vl}{k:Nat}{f:Int×Vl}(h:v.fields[k]?=some f):(gkids v)[k]?=some f.2:=by
 have hk:=(List.getElem?_eq_some_iff.1 h).1
 rw[FF,List.getElem?_append_left (by simpa using hk),List.getElem?_map,h]
 rfl
theorem VO{v:Vl}{k:Nat}{x:Vl}(h:v.list[k]?=some x):(gkids v)[v.fields.length+k]?=some x:=by
 have hk:=(List.getElem?_eq_some_iff.1 h).1
 rw[FF,List.getElem?_append_right (by simp),List.length_map,Nat.add_sub_cancel_left,List.getElem?_append_left hk,h]
theorem RT{v:Vl}{k:Nat}{p:Vl×Vl}(h:v.pairs[k]?=some p):(gkids v)[v.fields.length+v.list.length+2*k]?=some p.1/\(gkids v)[v.fields.length+v.list.length+2*k+1]?=some p.2:=by
 have hp:=KQ h
 have key:∀ j:Nat,(gkids v)[v.fields.length+v.list.length+j]?=(CF v.pairs)[j]?:=fun j=>by
  rw[FF,List.getElem?_append_right (by simp;omega),List.length_map,List.getElem?_append_right (by omega)]
  congr 1
  omega
 exact⟨by rw[key];exact hp.1,by rw[Nat.add_assoc,key];exact hp.2⟩
theorem T5(v:Vl):(gkids v).length=v.fields.length+v.list.length+2*v.pairs.length:=by
 rw[FF,List.length_append,List.length_append,List.length_map,QD]
 omega
abbrev sB(z:Int):BL:=[(3,⟨3,[.is (.int .i64 z)]⟩)]
abbrev YS(z:Int)(y:IV)(B1:BL)(R1:RL):Prop:=y=.tup []/\B1=sB z/\R1=[]
theorem YS.tidy{z z':Int}(y:IV)(B1:BL)(R1:RL)(h:YS z' y B1 R1):QP (sB z) [] y B1 R1:=by
 obtain⟨rfl,rfl,rfl⟩:=h
 exact⟨rfl,rfl,rfl,rfl⟩
set_option maxHeartbeats 1000000 in
theorem VG(f:FuncId)(hfc:AU Try.prog f=true)(v:Vl)(hs:B7 v)(st:Nat->Int)(hc:∀ (k:Nat) x,(gkids v)[k]?=some x->EG Try.prog [] f [.part (.many (vd x)),.box 3 0] (sB (st k)) [] (YS (st (k+1)))):EG Try.prog [] 108 [.part (.many (vd v)),.clo (.func f) [] [.box 3 0]] (sB (st 0)) [] (YS (st (gkids v).length)):=by
 obtain⟨a1,a2,a3⟩:=F6 hs
 refine DK 49 Try.func108 rfl rfl rfl fun w D bor mb=>?_
 try refine A1 ?_
 refine AI ?_
 refine BS 2 rfl rfl rfl rfl (kn rfl) rfl rfl rfl rfl ?_
 refine AH ?_
 try refine A1 ?_
 refine A0 (A3 rfl rfl rfl (A4 rfl (kn rfl) off_27_3) (A3 rfl rfl rfl (A5 rfl (kn rfl) rfl rfl one_23) (A3 rfl rfl rfl (AW rfl (kn rfl) sle_23) (A8 rfl rfl rfl rfl rfl .nil)))) ?_
 try refine A1 ?_
 refine BG (ι:={ k:Nat // k<=(v.fields).length })
  (fun k=>[(1,.clo (.func f) [] [.box 3 0]),(2,.box 2 0),(11,.part (.one (.row 8 (v.fields).length ((v.fields).flatMap fieldDats)))),(12,.is (.int .i64 ((v.fields).length:Int))),(13,.is (.int .i64 (k.1:Int)))])
  (fun k=>[(3,⟨3,[.is (.int .i64 (st (k.1)))]⟩),(2,⟨27,bcs (vd v)⟩)]) (fun _=>[]) (fun k=>(v.fields).length-k.1) ⟨0,by omega⟩
  (fun K=>AN ⟨s_t,s_t,s_t,s_t,s_t,trivial⟩ ⟨s_b,s_b,trivial⟩ trivial) ?_
 rintro⟨k,hk⟩
 dsimp only at hk ⊢
 try refine A1 ?_
 refine A0 (A3 rfl rfl rfl (A9 rfl (kn rfl) (kn rfl) BJ) .nil) ?_
 try refine A1 ?_
 refine AE rfl (fun h=>?_) (fun h=>?_)
 ·have hlt:k<v.fields.length:=by have:=of_decide_eq_true h;omega
  obtain⟨x,hx⟩:∃ x,v.fields[k]?=some x:=⟨_,List.getElem?_eq_getElem hlt⟩
  try refine A1 ?_
  refine AI ?_
  refine AK (AQ rfl (kn rfl) (kn rfl) (by omega) hx C0 sle_23 esz_23 (CK x)) ?_
  refine AK (AS rfl (kn rfl) agg_97 sz_97) ?_
  refine BD 5 [.is (.int .i64 0),.is (.int .i64 0),.is (.int .u64 0),.is (.string ⟨#[]⟩),.is (.slice none 0 0),.is (.string ⟨#[]⟩),.is (.slice none 0 0),.is (.slice none 0 0)] rfl rfl rfl rfl zr_97 (fun w D M V=>⟨rfl,fun j x v h1 h2=>BC _ h1 h2 rfl⟩) rfl rfl rfl rfl ?_
  refine B6 rfl rfl rfl (kn rfl) rfl (kn rfl) rfl rfl sz_97 ?_
  refine AH ?_
  try refine A1 ?_
  refine AI ?_
  refine BM ?_
  refine AK (A4 rfl (kn rfl) off_97_1) ?_
  refine AK (AB (ds:=[_,_,_,_,_,_,_]) 7 rfl (kn rfl) rfl rfl agg_27 sz_27 rfl) ?_
  refine DY (zs:=[_]) rfl rfl rfl rfl hfc (hc k x.2 (W0 hx)) ⟨rfl,trivial⟩ trivial (kn rfl) ⟨(kn rfl),trivial⟩ rfl (YS.tidy) ?_
  rintro _ _ _ ⟨rfl,rfl,rfl⟩
  refine AH ?_
  try refine A1 ?_
  refine A0 (A3 rfl rfl rfl (A9 rfl (kn rfl) (kn rfl) (AO (by first | omega | (dsimp only;omega)))) (A8 rfl rfl rfl rfl rfl .nil)) ?_
  try refine A1 ?_
  refine AT ⟨k+1,by omega⟩ (by dsimp only;omega) (fun K=>AN ⟨s_t,s_t,s_t,s_t,s_t,trivial⟩ ⟨s_b,s_b,trivial⟩ trivial)
 obtain rfl:k=v.fields.length:=by have:=of_decide_eq_false h;omega
 try refine A1 ?_
 refine A0 (A3 rfl rfl rfl (A4 rfl (kn rfl) off_27_5) (A3 rfl rfl rfl (A5 rfl (kn rfl) rfl rfl one_24) (A3 rfl rfl rfl (AW rfl (kn rfl) sle_24) (A8 rfl rfl rfl rfl rfl .nil)))) ?_
 try refine A1 ?_
 refine BG (ι:={ k:Nat // k<=(v.list).length })
  (fun k=>[(1,.clo (.func f) [] [.box 3 0]),(2,.box 2 0),(23,.part (.one (.row 7 (v.list).length ((v.list).flatMap Vl.dats)))),(24,.is (.int .i64 ((v.list).length:Int))),(25,.is (.int .i64 (k.1:Int)))])
  (fun k=>[(3,⟨3,[.is (.int .i64 (st (v.fields.length+k.1)))]⟩),(2,⟨27,bcs (vd v)⟩)]) (fun _=>[]) (fun k=>(v.list).length-k.1) ⟨0,by omega⟩
  (fun K=>AN ⟨s_t,s_t,s_t,s_t,s_t,trivial⟩ ⟨s_b,s_b,trivial⟩ trivial) ?_
 rintro⟨k,hk⟩
 dsimp only at hk ⊢
 try refine A1 ?_
 refine A0 (A3 rfl rfl rfl (A9 rfl (kn rfl) (kn rfl) BJ) .nil) ?_
 try refine A1 ?_
 refine AE rfl (fun h=>?_) (fun h=>?_)
 ·have hlt:k<v.list.length:=by have:=of_decide_eq_true h;omega
  obtain⟨x,hx⟩:∃ x,v.list[k]?=some x:=⟨_,List.getElem?_eq_getElem hlt⟩
  try refine A1 ?_
  refine AI ?_
  refine AK (AQ rfl (kn rfl) (kn rfl) (by omega) hx Vl.dats_len sle_24 esz_24 (E9 x)) ?_
  refine AK (AS rfl (kn rfl) agg_27 sz_27) ?_
  refine BD 7 [.is (.int .i64 0),.is (.int .u64 0),.is (.string ⟨#[]⟩),.is (.slice none 0 0),.is (.string ⟨#[]⟩),.is (.slice none 0 0),.is (.slice none 0 0)] rfl rfl rfl rfl zr_27 (fun w D M V=>⟨rfl,fun j x v h1 h2=>BC _ h1 h2 rfl⟩) rfl rfl rfl rfl ?_
  refine B6 rfl rfl rfl (kn rfl) rfl (kn rfl) rfl rfl sz_27 ?_
  refine AH ?_
  try refine A1 ?_
  refine AI ?_
  refine BM ?_
  refine AK (AB (ds:=[_,_,_,_,_,_,_]) 7 rfl (kn rfl) rfl rfl agg_27 sz_27 rfl) ?_
  refine DY (zs:=[_]) rfl rfl rfl rfl hfc (hc (v.fields.length+k) x (VO hx)) ⟨rfl,trivial⟩ trivial (kn rfl) ⟨(kn rfl),trivial⟩ rfl (YS.tidy) ?_
  rintro _ _ _ ⟨rfl,rfl,rfl⟩
  refine AH ?_
  try refine A1 ?_
  refine A0 (A3 rfl rfl rfl (A9 rfl (kn rfl) (kn rfl) (AO (by first | omega | (dsimp only;omega)))) (A8 rfl rfl rfl rfl rfl .nil)) ?_
  try refine A1 ?_
  refine AT ⟨k+1,by omega⟩ (by dsimp only;omega) (fun K=>AN ⟨s_t,s_t,s_t,s_t,s_t,trivial⟩ ⟨s_b,s_b,trivial⟩ trivial)
 obtain rfl:k=v.list.length:=by have:=of_decide_eq_false h;omega
 try refine A1 ?_
 refine A0 (A3 rfl rfl rfl (A4 rfl (kn rfl) off_27_6) (A3 rfl rfl rfl (A5 rfl (kn rfl) rfl rfl one_25) (A3 rfl rfl rfl (AW rfl (kn rfl) sle_25) (A8 rfl rfl rfl rfl rfl .nil)))) ?_
 try refine A1 ?_
 refine BG (ι:={ k:Nat // k<=(v.pairs).length })
  (fun k=>[(1,.clo (.func f) [] [.box 3 0]),(2,.box 2 0),(34,.part (.one (.row 14 (v.pairs).length ((v.pairs).flatMap pairDats)))),(35,.is (.int .i64 ((v.pairs).length:Int))),(36,.is (.int .i64 (k.1:Int)))])
  (fun k=>[(3,⟨3,[.is (.int .i64 (st (v.fields.length+v.list.length+2*k.1)))]⟩),(2,⟨27,bcs (vd v)⟩)]) (fun _=>[]) (fun k=>(v.pairs).length-k.1) ⟨0,by omega⟩
  (fun K=>AN ⟨s_t,s_t,s_t,s_t,s_t,trivial⟩ ⟨s_b,s_b,trivial⟩ trivial) ?_
 rintro⟨k,hk⟩
 dsimp only at hk ⊢
 try refine A1 ?_
 refine A0 (A3 rfl rfl rfl (A9 rfl (kn rfl) (kn rfl) BJ) .nil) ?_
 try refine A1 ?_
 refine AE rfl (fun h=>?_) (fun h=>?_)
 ·have hlt:k<v.pairs.length:=by have:=of_decide_eq_true h;omega
  obtain⟨x,hx⟩:∃ x,v.pairs[k]?=some x:=⟨_,List.getElem?_eq_getElem hlt⟩
  try refine A1 ?_
  refine AI ?_
  refine AK (AQ rfl (kn rfl) (kn rfl) (by omega) hx BY sle_25 esz_25 (CI x)) ?_
  refine AK (AS rfl (kn rfl) agg_101 sz_101) ?_
  refine BD 9 [.is (.int .i64 0),.is (.int .u64 0),.is (.string ⟨#[]⟩),.is (.slice none 0 0),.is (.string ⟨#[]⟩),.is (.slice none 0 0),.is (.slice none 0 0),.is (.int .i64 0),.is (.int .u64 0),.is (.string ⟨#[]⟩),.is (.slice none 0 0),.is (.string ⟨#[]⟩),.is (.slice none 0 0),.is (.slice none 0 0)] rfl rfl rfl rfl zr_101 (fun w D M V=>⟨rfl,fun j x v h1 h2=>BC _ h1 h2 rfl⟩) rfl rfl rfl rfl ?_
  refine B6 rfl rfl rfl (kn rfl) rfl (kn rfl) rfl rfl sz_101 ?_
  refine AH ?_
  try refine A1 ?_
  refine AI ?_
  refine BM ?_
  refine AK (A4 rfl (kn rfl) off_101_0) ?_
  refine AK (AB (ds:=[_,_,_,_,_,_,_]) 7 rfl (kn rfl) rfl rfl agg_27 sz_27 rfl) ?_
  refine DY (zs:=[_]) rfl rfl rfl rfl hfc (hc _ x.1 (RT hx).1) ⟨rfl,trivial⟩ trivial (kn rfl) ⟨(kn rfl),trivial⟩ rfl (YS.tidy) ?_
  rintro _ _ _ ⟨rfl,rfl,rfl⟩
  refine AH ?_
  try refine A1 ?_
  refine AI ?_
  refine BM ?_
  refine AK (A4 rfl (kn rfl) off_101_1) ?_
  refine AK (AB (ds:=[_,_,_,_,_,_,_]) 7 rfl (kn rfl) rfl rfl agg_27 sz_27 rfl) ?_
  refine DY (zs:=[_]) rfl rfl rfl rfl hfc (hc _ x.2 (RT hx).2) ⟨rfl,trivial⟩ trivial (kn rfl) ⟨(kn rfl),trivial⟩ rfl (YS.tidy) ?_
  rintro _ _ _ ⟨rfl,rfl,rfl⟩
  refine AH ?_
  try refine A1 ?_
  refine A0 (A3 rfl rfl rfl (A9 rfl (kn rfl) (kn rfl) (AO (by first | omega | (dsimp only;omega)))) (A8 rfl rfl rfl rfl rfl .nil)) ?_
  try refine A1 ?_
  refine AT ⟨k+1,by omega⟩ (by dsimp only;omega) (fun K=>AN ⟨s_t,s_t,s_t,s_t,s_t,trivial⟩ ⟨s_b,s_b,trivial⟩ trivial)
 obtain rfl:k=v.pairs.length:=by have:=of_decide_eq_false h;omega
 try refine A1 ?_
 rw[<- T5]
 exact TZ (sB (st (gkids v).length)) [] rfl .nil (Imp.refl _) ⟨s_b,trivial⟩ trivial ⟨rfl,rfl,rfl⟩
theorem SH{P:Vl->Prop}(h:∀ v:Vl,(∀ x∈gkids v,P x)->P v)(v:Vl):P v:=by
 refine Vl.parts (fun v hf hl hp=>h v fun x hx=>?_) v
 simp only[FF,List.mem_append,List.mem_map]at hx
 rcases hx with⟨f,h1,rfl⟩ | h1 | h1
 ·exact hf f h1
 ·exact hl x h1
 ·unfold CF at h1
  obtain⟨p,h2,h3⟩:=List.mem_flatMap.1 h1
  simp only[List.mem_cons,List.not_mem_nil,or_false]at h3
  rcases h3 with rfl | rfl
  ·exact(hp p h2).1
  ·exact(hp p h2).2
theorem S3{v:Vl}(h:B7 v){x:Vl}(hx:x∈gkids v):B7 x:=by
 have h0:vnodes v<=1000000:=h
 have h1:=LH hx
 have h2:=Q1 v
 show vnodes x<=1000000
 omega
theorem RK(v:Vl):vsize v=if v.kind=0 then 0 else 1+lsize (gkids v):=by
 rw[FF,E8,E8,IA,JJ,OV]
 split<;>omega
def MD(v:Vl):Prop:=EF Try.prog [] 95 [.many (vd v)] (.part (iP (vsize v)))
theorem U1(n m:Int)(x:Vl)(hx:MD x)(hm:n+vsize x=m)(h0:0<=n)(h1:m<=100000000):EG Try.prog [] 109 [.part (.many (vd x)),.box 3 0] (sB n) [] (YS m):=by
 subst hm
 refine DK 7 Try.func109 rfl rfl rfl fun w D bor mb=>?_
 try refine A1 ?_
 refine AI ?_
 refine BS 2 rfl rfl rfl rfl (kn rfl) rfl rfl rfl rfl ?_
 refine AH ?_
 try refine A1 ?_
 refine PL 4 C8 (by kernel_rfl) (A3 rfl rfl rfl (A5 rfl (kn rfl) rfl rfl one_3) (A3 rfl rfl rfl (AB (ds:=[_,_,_,_,_,_,_]) 7 rfl (kn rfl) rfl rfl agg_27 sz_27 rfl) (A3 rfl rfl rfl (AG rfl (by kernel_rfl) (hx) ⟨(kn rfl),trivial⟩) (A3 rfl rfl rfl (A9 rfl (kn rfl) (kn rfl) (AO (by first | omega | (dsimp only;omega)))) .nil)))) ?_
 refine BW rfl rfl rfl (kn rfl) rfl (kn rfl) rfl rfl sz_3 rfl ?_
 refine AH ?_
 try refine A1 ?_
 exact TZ (sB (n+vsize x)) [] rfl .nil (Imp.refl _) ⟨s_b,trivial⟩ trivial ⟨rfl,rfl,rfl⟩
theorem QJ(v:Vl)(hs:B7 v)(ih:∀ x∈gkids v,MD x):MD v:=by
 have hn:=Q1 v
 have hs0:vnodes v<=1000000:=hs
 have hE:=VG 109 (by kernel_rfl) v hs (fun k=>1+(lsize ((gkids v).take k):Int)) fun k x hx=>by
  have htk:=RG hx
  have hle:=OO ((gkids v).take (k+1))
  have hle2:=O6 (gkids v) (k+1)
  refine U1 _ _ x (ih x (List.mem_of_getElem? hx)) ?_ (by omega) (by omega)
  rw[htk]
  omega
 rw[List.take_zero,List.take_length]at hE
 unfold MD
 refine AF 11 Try.func95 rfl rfl rfl fun w D=>?_
 try refine A1 ?_
 refine AI ?_
 refine BS 1 rfl rfl rfl rfl (kn rfl) rfl rfl rfl rfl ?_
 refine C7 ?_
 refine AH ?_
 try refine A1 ?_
 refine A0 (A3 rfl rfl rfl (A4 rfl (kn rfl) off_27_0) (A3 rfl rfl rfl (A5 rfl (kn rfl) rfl rfl one_3) (A3 rfl rfl rfl (A9 rfl (kn rfl) (kn rfl) AL) .nil))) ?_
 try refine A1 ?_
 refine AE rfl (fun h=>?_) (fun h=>?_)
 ·have e:vsize v=0:=by rw[RK];exact if_pos (of_decide_eq_true h)
  try refine A1 ?_
  refine A0 (AC rfl rfl rfl rfl rfl .nil) ?_
  try refine A1 ?_
  exact A7 rfl rfl (.tmp (kn rfl) (.nil)) (Imp.of_eq (by rw[e];rfl)) rfl
 have e:vsize v=1+lsize (gkids v):=by rw[RK];exact if_neg (of_decide_eq_false h)
 try refine A1 ?_
 refine AI ?_
 refine BD 3 [.is (.int .i64 0)] rfl rfl rfl rfl zr_3 (fun w D M V=>⟨rfl,fun j x v h1 h2=>BC _ h1 h2 rfl⟩) rfl rfl rfl rfl ?_
 refine BW rfl rfl rfl (kn rfl) rfl (kn rfl) rfl rfl sz_3 rfl ?_
 refine AH ?_
 try refine A1 ?_
 refine AI ?_
 refine AK (AB (ds:=[_,_,_,_,_,_,_]) 7 rfl (kn rfl) rfl rfl agg_27 sz_27 rfl) ?_
 refine AK (US (fs:=[]) (cs:=[.box 3 0]) rfl trivial ⟨(kn rfl),trivial⟩) ?_
 refine GZ rfl rfl rfl rfl (by kernel_rfl) (hE) ⟨rfl,trivial⟩ trivial ⟨(kn rfl),⟨(kn rfl),trivial⟩⟩ (YS.tidy) ?_
 rintro _ _ _ ⟨rfl,rfl,rfl⟩
 refine AH ?_
 try refine A1 ?_
 refine A0 (A3 rfl rfl rfl (A5 rfl (kn rfl) rfl rfl one_3) (AC rfl rfl rfl rfl rfl .nil)) ?_
 try refine A1 ?_
 exact A7 rfl rfl (.tmp (kn rfl) (.nil)) (Imp.of_eq (by rw[e];simp;rfl)) rfl
theorem IN(v:Vl)(hs:B7 v):MD v:=by
 revert hs
 exact SH (P:=fun v=>B7 v->MD v) (fun v ih hs=>QJ v hs fun x hx=>ih x hx (S3 hs hx)) v
end Go.Proofs.Ytecfdcdkkgmkpaa
