/- Part 24. Conditions: as each theorem says. -/
import Derived.Test.YtojdpgeeajaojaaGreatET23
import Derived.Test.YtojdpgeeajaojaaGreatProg
set_option maxRecDepth 100000
namespace Go.Proofs.YtojdpgeeajaojaaGreat
open Go.RowKit
def D3(v:Vl):Prop:=EF Tryz.prog [] 73 [.many (vd v)] (.part (tP (vright v)))
theorem Q4(f:Int×Vl)(hr:D3 f.2):EF Tryz.prog [] 88 [.many (fd f)] (.part (tP (fok f))):=by
 refine AG 17 Tryz.func88 rfl rfl rfl fun w D=>?_
 try refine A3 ?_
 refine AI ?_
 refine B9 1 rfl rfl rfl rfl (kn rfl) rfl rfl rfl rfl ?_
 refine BX ?_
 refine AM ?_
 try refine A3 ?_
 refine A2 (A4 rfl rfl rfl (A1 rfl (kn rfl) off_79_0) (A4 rfl rfl rfl (A5 rfl (kn rfl) rfl rfl one_3) (A4 rfl rfl rfl (AD rfl (by kernel_rfl) (JG f.1) ⟨(kn rfl),trivial⟩) (A9 rfl rfl rfl rfl rfl (Walk.gd _ rfl rfl rfl (fun h=>A1 rfl (kn rfl) off_79_1) (Walk.gd _ rfl rfl rfl (fun h=>A1 rfl (A0 rfl h) off_27_0) (Walk.gd _ rfl rfl rfl (fun h=>A5 rfl (A0 rfl h) rfl rfl one_3) (Walk.gd _ rfl rfl rfl (fun h=>A6 rfl (A0 rfl h) (kn rfl) BI) (A4 rfl rfl rfl (AO rfl (kn rfl) (fun hb=>A0 rfl hb)) (A9 rfl rfl rfl rfl rfl (Walk.gd _ rfl rfl rfl (fun h=>A1 rfl (kn rfl) off_79_1) (Walk.gd _ rfl rfl rfl (fun h=>A7 (ds:=[_,_,_,_,_,_,_]) 7 rfl (A0 rfl h) rfl rfl agg_27 sz_27 rfl) (Walk.gd _ rfl rfl rfl (fun h=>AD rfl (by kernel_rfl) (hr) ⟨(A0 rfl h),trivial⟩) (A4 rfl rfl rfl (AO rfl (kn rfl) (fun hb=>A0 rfl hb)) (AC rfl rfl rfl rfl rfl .nil))))))))))))))) ?_
 try refine A3 ?_
 exact A8 rfl rfl (.tmp (kn rfl) (.nil)) (AZ rfl) rfl
theorem LC(x:Vl)(hr:D3 x):EF Tryz.prog [] 92 [.many (vd x)] (.part (tP (GU x))):=by
 refine AG 15 Tryz.func92 rfl rfl rfl fun w D=>?_
 try refine A3 ?_
 refine AI ?_
 refine B9 1 rfl rfl rfl rfl (kn rfl) rfl rfl rfl rfl ?_
 refine BX ?_
 refine AM ?_
 try refine A3 ?_
 refine A2 (A4 rfl rfl rfl (A1 rfl (kn rfl) off_27_0) (A4 rfl rfl rfl (A5 rfl (kn rfl) rfl rfl one_3) (A4 rfl rfl rfl (A6 rfl (kn rfl) (kn rfl) CM) (A9 rfl rfl rfl rfl rfl (Walk.gd _ rfl rfl rfl (fun h=>A1 rfl (kn rfl) off_27_0) (Walk.gd _ rfl rfl rfl (fun h=>A5 rfl (A0 rfl h) rfl rfl one_3) (Walk.gd _ rfl rfl rfl (fun h=>A6 rfl (A0 rfl h) (kn rfl) L9) (A4 rfl rfl rfl (AO rfl (kn rfl) (fun hb=>A0 rfl hb)) (A9 rfl rfl rfl rfl rfl (Walk.gd _ rfl rfl rfl (fun h=>A7 (ds:=[_,_,_,_,_,_,_]) 7 rfl (kn rfl) rfl rfl agg_27 sz_27 rfl) (Walk.gd _ rfl rfl rfl (fun h=>AD rfl (by kernel_rfl) (hr) ⟨(A0 rfl h),trivial⟩) (A4 rfl rfl rfl (AO rfl (kn rfl) (fun hb=>A0 rfl hb)) (AC rfl rfl rfl rfl rfl .nil))))))))))))) ?_
 try refine A3 ?_
 exact A8 rfl rfl (.tmp (kn rfl) (.nil)) (AZ rfl) rfl
theorem LZ(p:Vl×Vl)(h1:D3 p.1)(h2:D3 p.2):EF Tryz.prog [] 103 [.many (pd p)] (.part (tP (vright p.1&&GU p.2))):=by
 refine AG 11 Tryz.func103 rfl rfl rfl fun w D=>?_
 try refine A3 ?_
 refine AI ?_
 refine B9 1 rfl rfl rfl rfl (kn rfl) rfl rfl rfl rfl ?_
 refine BX ?_
 refine AM ?_
 try refine A3 ?_
 refine A2 (A4 rfl rfl rfl (A1 rfl (kn rfl) off_83_0) (A4 rfl rfl rfl (A7 (ds:=[_,_,_,_,_,_,_]) 7 rfl (kn rfl) rfl rfl agg_27 sz_27 rfl) (A4 rfl rfl rfl (AD rfl (by kernel_rfl) (h1) ⟨(kn rfl),trivial⟩) (A9 rfl rfl rfl rfl rfl (Walk.gd _ rfl rfl rfl (fun h=>A1 rfl (kn rfl) off_83_1) (Walk.gd _ rfl rfl rfl (fun h=>A7 (ds:=[_,_,_,_,_,_,_]) 7 rfl (A0 rfl h) rfl rfl agg_27 sz_27 rfl) (Walk.gd _ rfl rfl rfl (fun h=>AD rfl (by kernel_rfl) (LC p.2 h2) ⟨(A0 rfl h),trivial⟩) (A4 rfl rfl rfl (AO rfl (kn rfl) (fun hb=>A0 rfl hb)) (AC rfl rfl rfl rfl rfl .nil))))))))) ?_
 try refine A3 ?_
 exact A8 rfl rfl (.tmp (kn rfl) (.nil)) (AZ rfl) rfl
theorem TU(z:Int)(p:Vl×Vl)(h1:D3 p.1)(h2:D3 p.2):EG Tryz.prog [] 102 [.part (.many (pd p)),.box 3 0] (kB z) [] (YB z (pok z p)):=by
 refine HS 13 Tryz.func102 rfl rfl rfl fun w D bor mb=>?_
 try refine A3 ?_
 refine AI ?_
 refine B9 2 rfl rfl rfl rfl (kn rfl) rfl rfl rfl rfl ?_
 refine BX ?_
 refine AM ?_
 try refine A3 ?_
 refine A2 (A4 rfl rfl rfl (A1 rfl (kn rfl) off_83_0) (A4 rfl rfl rfl (A1 rfl (kn rfl) off_27_0) (A4 rfl rfl rfl (A5 rfl (kn rfl) rfl rfl one_3) (A4 rfl rfl rfl (A5 rfl (kn rfl) rfl rfl one_3) (A4 rfl rfl rfl (A6 rfl (kn rfl) (kn rfl) AP) (A9 rfl rfl rfl rfl rfl (Walk.gd _ rfl rfl rfl (fun h=>A7 (ds:=[_,_,_,_,_,_,_,_,_,_,_,_,_,_]) 14 rfl (kn rfl) rfl rfl agg_83 sz_83 rfl) (Walk.gd _ rfl rfl rfl (fun h=>AD rfl (by kernel_rfl) (LZ p h1 h2) ⟨(A0 rfl h),trivial⟩) (A4 rfl rfl rfl (AO rfl (kn rfl) (fun hb=>A0 rfl hb)) (AC rfl rfl rfl rfl rfl .nil)))))))))) ?_
 try refine A3 ?_
 exact IC (kB z) ([]) rfl (.tmp (kn rfl) (.nil)) (Imp.refl _) ⟨s_b,trivial⟩ trivial (⟨rfl,rfl,rfl⟩)
theorem KW(v:Vl)(hs:B8 v)(hv:v.pairs≠[])(hp:∀ p∈v.pairs,D3 p.1/\D3 p.2):EF Tryz.prog [] 93 [.many (vd v)] (.part (tP (DJ v.pairs))):=by
 obtain⟨p0,hp0⟩:∃ p0,v.pairs[0]?=some p0:=⟨_,List.getElem?_eq_getElem (List.length_pos_iff.2 hv)⟩
 have e:DJ v.pairs=((decide (p0.1.kind=1)||decide (p0.1.kind=2))&&(v.pairs.all (pok p0.1.kind)&&BH LU v.pairs)):=by
  revert hp0
  cases v.pairs with
  | nil=>intro h;cases h
  | cons q ps=>
   intro h
   obtain rfl:q=p0:=by simpa using h
   rfl
 have hlen:=(F4 hs).2.2
 refine AG 25 Tryz.func93 rfl rfl rfl fun w D=>?_
 try refine A3 ?_
 refine AI ?_
 refine B9 1 rfl rfl rfl rfl (kn rfl) rfl rfl rfl rfl ?_
 refine BX ?_
 refine AM ?_
 try refine A3 ?_
 refine AI ?_
 refine AQ (A1 rfl (kn rfl) off_27_6) ?_
 refine AQ (A5 rfl (kn rfl) rfl rfl one_25) ?_
 refine AQ (AJ rfl (kn rfl) (kn rfl) (by omega) hp0 B5 sle_25 esz_25 (BA p0)) ?_
 refine AQ (AA rfl (kn rfl) off_83_0) ?_
 refine AQ (AA rfl (kn rfl) off_27_0) ?_
 refine AQ (AF rfl (kn rfl) one_3) ?_
 refine AW 3 [.is (.int .i64 0)] rfl rfl rfl rfl zr_3 (fun w D M V=>⟨rfl,fun j x v h1 h2=>AV _ h1 h2 rfl⟩) rfl rfl rfl rfl ?_
 refine C5 rfl rfl rfl (kn rfl) rfl (kn rfl) rfl rfl sz_3 rfl ?_
 refine AM ?_
 try refine A3 ?_
 refine A2 (A4 rfl rfl rfl (A5 rfl (kn rfl) rfl rfl one_3) (A4 rfl rfl rfl (A6 rfl (kn rfl) (kn rfl) BI) (A9 rfl rfl rfl rfl rfl (Walk.gd _ rfl rfl rfl (fun h=>A5 rfl (kn rfl) rfl rfl one_3) (Walk.gd _ rfl rfl rfl (fun h=>A6 rfl (A0 rfl h) (kn rfl) BI) (A4 rfl rfl rfl (AO rfl (kn rfl) (fun hb=>A0 rfl hb)) .nil)))))) ?_
 try refine A3 ?_
 refine AB rfl (fun h1=>?_) (fun h1=>?_)
 ·have e2:DJ v.pairs=false:=by
   rw[e]
   have h2:¬ p0.1.kind=1/\¬ p0.1.kind=2:=by simpa using h1
   rw[decide_eq_false h2.1,decide_eq_false h2.2]
   rfl
  try refine A3 ?_
  refine A2 (AC rfl rfl rfl rfl rfl .nil) ?_
  try refine A3 ?_
  exact A8 rfl rfl (.tmp (kn rfl) (.nil)) (AZ e2.symm) rfl
 have e2:DJ v.pairs=(v.pairs.all (pok p0.1.kind)&&BH LU v.pairs):=by
  have h2:p0.1.kind=1\/p0.1.kind=2:=by
   rcases Decidable.em (p0.1.kind=1)with h | h
   ·exact .inl h
   ·refine .inr ?_
    have h3:¬ p0.1.kind=1->p0.1.kind=2:=by simpa using h1
    exact h3 h
  rw[e]
  rcases h2 with h2 | h2<;>rw[h2]<;>rfl
 try refine A3 ?_
 refine AI ?_
 refine AQ (A1 rfl (kn rfl) off_27_6) ?_
 refine AQ (A5 rfl (kn rfl) rfl rfl one_25) ?_
 refine AQ (RI (fs:=[]) (cs:=[.box 3 0]) rfl trivial ⟨(kn rfl),trivial⟩) ?_
 refine PX rfl rfl rfl rfl (by kernel_rfl) (M4 p0.1.kind v.pairs hlen (pok p0.1.kind) (fun x hx=>TU p0.1.kind x (hp x hx).1 (hp x hx).2)) ⟨rfl,trivial⟩ trivial ⟨(kn rfl),⟨(kn rfl),trivial⟩⟩ (YB.tidy) ?_
 rintro _ _ _ ⟨rfl,rfl,rfl⟩
 refine D9 ?_
 refine GK rfl rfl rfl (fun h=>A1 rfl (kn rfl) off_27_6) ?_
 refine GK rfl rfl rfl (fun h=>A5 rfl (A0 rfl h) rfl rfl one_25) ?_
 refine GK rfl rfl rfl (fun h=>AD rfl (by kernel_rfl) (KQ 99 (by kernel_rfl) v.pairs hlen LU (fun x hx y hy=>MR x y (FP x.1 (CY hs hx).1 y.1 (CY hs hy).1))) ⟨(A0 rfl h),⟨(kn rfl),trivial⟩⟩) ?_
 refine AQ (AO rfl (kn rfl) (fun hb=>A0 rfl hb)) ?_
 refine BX ?_
 refine AM ?_
 try refine A3 ?_
 exact A8 rfl rfl (.tmp (kn rfl) (.nil)) (AZ e2.symm) rfl
set_option maxHeartbeats 1000000 in
theorem M5(v:Vl)(hs:B8 v)(hf:∀ f∈v.fields,D3 f.2)(hl:∀ x∈v.list,D3 x)(hp:∀ p∈v.pairs,D3 p.1/\D3 p.2):D3 v:=by
 unfold D3
 rw[MK]
 obtain⟨a1,a2,a3⟩:=F4 hs
 refine AG 43 Tryz.func73 rfl rfl rfl fun w D=>?_
 try refine A3 ?_
 refine AI ?_
 refine B9 1 rfl rfl rfl rfl (kn rfl) rfl rfl rfl rfl ?_
 refine BX ?_
 refine AM ?_
 try refine A3 ?_
 refine A2 (A4 rfl rfl rfl (A7 (ds:=[_,_,_,_,_,_,_]) 7 rfl (kn rfl) rfl rfl agg_27 sz_27 rfl) (A4 rfl rfl rfl (AD rfl (by kernel_rfl) (TJ v) ⟨(kn rfl),trivial⟩) (A4 rfl rfl rfl (BZ rfl (kn rfl)) .nil))) ?_
 try refine A3 ?_
 refine AB rfl (fun h=>?_) (fun h=>?_)
 ·have e:GO v=false:=by
   unfold GO
   rw[show FR v=false by simpa using h]
   rfl
  try refine A3 ?_
  refine A2 (AC rfl rfl rfl rfl rfl .nil) ?_
  try refine A3 ?_
  exact A8 rfl rfl (.tmp (kn rfl) (.nil)) (AZ e.symm) rfl
 have e:GO v=(if v.kind=0\/v.kind=1\/v.kind=2 then true else if v.kind=3 then v.fields.all fok&&BH IY v.fields else if v.kind=4 then decide (v.list≠[])&&v.list.all GU else if v.kind=5 then DJ v.pairs else false):=by
  unfold GO
  rw[show FR v=true by simpa using h]
  exact Bool.true_and _
 clear h
 try refine A3 ?_
 refine A2 (A4 rfl rfl rfl (A1 rfl (kn rfl) off_27_0) (A4 rfl rfl rfl (A5 rfl (kn rfl) rfl rfl one_3) .nil)) ?_
 try refine A3 ?_
 try refine A3 ?_
 refine A2 (A4 rfl rfl rfl (A6 rfl (kn rfl) (kn rfl) AP) (AC rfl rfl rfl rfl rfl .nil)) ?_
 try refine A3 ?_
 refine AB rfl (fun q0=>?_) (fun q0=>?_)
 ·try refine A3 ?_
  refine AB rfl (fun _=>?_) (fun h=>absurd (h.symm.trans q0) (by decide))
  try refine A3 ?_
  refine A2 (AC rfl rfl rfl rfl rfl .nil) ?_
  try refine A3 ?_
  exact A8 rfl rfl (.tmp (kn rfl) (.nil)) (AZ (by rw[e];exact(if_pos (.inl (of_decide_eq_true q0))).symm)) rfl
 try refine A3 ?_
 refine A2 (A4 rfl rfl rfl (A6 rfl (kn rfl) (kn rfl) AP) (AC rfl rfl rfl rfl rfl .nil)) ?_
 try refine A3 ?_
 refine AB rfl (fun q1=>?_) (fun q1=>?_)
 ·try refine A3 ?_
  refine AB rfl (fun _=>?_) (fun h=>absurd (h.symm.trans q1) (by decide))
  try refine A3 ?_
  refine A2 (AC rfl rfl rfl rfl rfl .nil) ?_
  try refine A3 ?_
  exact A8 rfl rfl (.tmp (kn rfl) (.nil)) (AZ (by rw[e];exact(if_pos (.inr (.inl (of_decide_eq_true q1)))).symm)) rfl
 try refine A3 ?_
 refine A2 (A4 rfl rfl rfl (A6 rfl (kn rfl) (kn rfl) AP) (AC rfl rfl rfl rfl rfl .nil)) ?_
 try refine A3 ?_
 try refine A3 ?_
 refine AB rfl (fun q2=>?_) (fun q2=>?_)
 ·try refine A3 ?_
  refine A2 (AC rfl rfl rfl rfl rfl .nil) ?_
  try refine A3 ?_
  exact A8 rfl rfl (.tmp (kn rfl) (.nil)) (AZ (by rw[e];exact(if_pos (.inr (.inr (of_decide_eq_true q2)))).symm)) rfl
 have n0:=of_decide_eq_false q0
 have n1:=of_decide_eq_false q1
 have n2:=of_decide_eq_false q2
 rw[if_neg (by omega)]at e
 try refine A3 ?_
 refine A2 (A4 rfl rfl rfl (A6 rfl (kn rfl) (kn rfl) AP) (AC rfl rfl rfl rfl rfl .nil)) ?_
 try refine A3 ?_
 refine AB rfl (fun q3=>?_) (fun q3=>?_)
 ·rw[if_pos (of_decide_eq_true q3)]at e
  try refine A3 ?_
  refine A2 (A4 rfl rfl rfl (A1 rfl (kn rfl) off_27_3) (A4 rfl rfl rfl (A5 rfl (kn rfl) rfl rfl one_23) (A4 rfl rfl rfl (AD rfl (by kernel_rfl) (KV 88 (by kernel_rfl) v.fields a1 fok (fun x hx=>Q4 x (hf x hx))) ⟨(kn rfl),⟨(kn rfl),trivial⟩⟩) (A9 rfl rfl rfl rfl rfl (Walk.gd _ rfl rfl rfl (fun h=>A1 rfl (kn rfl) off_27_3) (Walk.gd _ rfl rfl rfl (fun h=>A5 rfl (A0 rfl h) rfl rfl one_23) (Walk.gd _ rfl rfl rfl (fun h=>AD rfl (by kernel_rfl) (J8 90 (by kernel_rfl) v.fields a1 IY (fun x _ y _=>IZ x y)) ⟨(A0 rfl h),⟨(kn rfl),trivial⟩⟩) (A4 rfl rfl rfl (AO rfl (kn rfl) (fun hb=>A0 rfl hb)) (AC rfl rfl rfl rfl rfl .nil))))))))) ?_
  try refine A3 ?_
  exact A8 rfl rfl (.tmp (kn rfl) (.nil)) (AZ e.symm) rfl
 rw[if_neg (of_decide_eq_false q3)]at e
 try refine A3 ?_
 refine A2 (A4 rfl rfl rfl (A6 rfl (kn rfl) (kn rfl) AP) (AC rfl rfl rfl rfl rfl .nil)) ?_
 try refine A3 ?_
 refine AB rfl (fun q4=>?_) (fun q4=>?_)
 ·rw[if_pos (of_decide_eq_true q4)]at e
  try refine A3 ?_
  refine A2 (A4 rfl rfl rfl (A1 rfl (kn rfl) off_27_5) (A4 rfl rfl rfl (A5 rfl (kn rfl) rfl rfl one_24) (A4 rfl rfl rfl (AR rfl (kn rfl) sle_24) (A4 rfl rfl rfl (A6 rfl (kn rfl) (kn rfl) BN) (A9 rfl rfl rfl rfl rfl (Walk.gd _ rfl rfl rfl (fun h=>A1 rfl (kn rfl) off_27_5) (Walk.gd _ rfl rfl rfl (fun h=>A5 rfl (A0 rfl h) rfl rfl one_24) (Walk.gd _ rfl rfl rfl (fun h=>AD rfl (by kernel_rfl) (NR 92 (by kernel_rfl) v.list a2 GU (fun x hx=>LC x (hl x hx))) ⟨(A0 rfl h),⟨(kn rfl),trivial⟩⟩) (A4 rfl rfl rfl (AO rfl (kn rfl) (fun hb=>A0 rfl hb)) (AC rfl rfl rfl rfl rfl .nil)))))))))) ?_
  try refine A3 ?_
  exact A8 rfl rfl (.tmp (kn rfl) (.nil)) (AZ (by rw[e];simp[Nat.pos_iff_ne_zero])) rfl
 rw[if_neg (of_decide_eq_false q4)]at e
 try refine A3 ?_
 refine A2 (A4 rfl rfl rfl (A6 rfl (kn rfl) (kn rfl) AP) (AC rfl rfl rfl rfl rfl .nil)) ?_
 try refine A3 ?_
 refine AB rfl (fun q5=>?_) (fun q5=>?_)
 ·rw[if_pos (of_decide_eq_true q5)]at e
  try refine A3 ?_
  refine A2 (A4 rfl rfl rfl (A1 rfl (kn rfl) off_27_6) (A4 rfl rfl rfl (A5 rfl (kn rfl) rfl rfl one_25) (A4 rfl rfl rfl (AR rfl (kn rfl) sle_25) (A4 rfl rfl rfl (A6 rfl (kn rfl) (kn rfl) BN) (A9 rfl rfl rfl rfl rfl (Walk.gd _ rfl rfl rfl (fun h=>A7 (ds:=[_,_,_,_,_,_,_]) 7 rfl (kn rfl) rfl rfl agg_27 sz_27 rfl) (Walk.gd _ rfl rfl rfl (fun h=>AD rfl (by kernel_rfl) (KW v hs (List.length_pos_iff.1 (by have:=of_decide_eq_true h;omega)) hp) ⟨(A0 rfl h),trivial⟩) (A4 rfl rfl rfl (AO rfl (kn rfl) (fun hb=>A0 rfl hb)) (AC rfl rfl rfl rfl rfl .nil))))))))) ?_
  try refine A3 ?_
  exact A8 rfl rfl (.tmp (kn rfl) (.nil)) (AZ (by rw[e];cases hv:v.pairs<;>simp[DJ])) rfl
 rw[if_neg (of_decide_eq_false q5)]at e
 try refine A3 ?_
 refine A2 (AC rfl rfl rfl rfl rfl .nil) ?_
 try refine A3 ?_
 exact A8 rfl rfl (.tmp (kn rfl) (.nil)) (AZ e.symm) rfl
theorem EU(v:Vl)(hv:B8 v):D3 v:=by
 revert hv
 exact Vl.parts (P:=fun a=>B8 a->D3 a) (fun v hf hl hp ha=>M5 v ha (fun f h=>hf f h (FZ ha h)) (fun x h=>hl x h (H6 ha h)) (fun p h=>⟨(hp p h).1 (CY ha h).1,(hp p h).2 (CY ha h).2⟩)) v
theorem KL:∀ {ps:List (Vl×Vl)} {k:Nat} {p:Vl×Vl},ps[k]?=some p->(BV ps)[2*k]?=some p.1/\(BV ps)[2*k+1]?=some p.2
 | [],_,_,h=>by simp at h
 | q::ps,0,p,h=>by
  obtain rfl:q=p:=by simpa using h
  rw[DP]
  exact⟨rfl,rfl⟩
 | q::ps,k+1,p,h=>by
  have h1:=KL (ps:=ps) (k:=k) (p:=p) (by simpa using h)
  rw[DP,show 2*(k+1)=2*k+1+1 by omega]
  exact⟨by simpa using h1.1,by simpa using h1.2⟩
theorem ER(v:Vl):gkids v=v.fields.map (·.2)++(v.list++BV v.pairs):=rfl
theorem TZ{v:Vl}{k:Nat}{f:Int×Vl}(h:v.fields[k]?=some f):(gkids v)[k]?=some f.2:=by
 have hk:=(List.getElem?_eq_some_iff.1 h).1
 rw[ER,List.getElem?_append_left (by simpa using hk),List.getElem?_map,h]
 rfl
theorem U0{v:Vl}{k:Nat}{x:Vl}(h:v.list[k]?=some x):(gkids v)[v.fields.length+k]?=some x:=by
 have hk:=(List.getElem?_eq_some_iff.1 h).1
 rw[ER,List.getElem?_append_right (by simp),List.length_map,Nat.add_sub_cancel_left,List.getElem?_append_left hk,h]
theorem PU{v:Vl}{k:Nat}{p:Vl×Vl}(h:v.pairs[k]?=some p):(gkids v)[v.fields.length+v.list.length+2*k]?=some p.1/\(gkids v)[v.fields.length+v.list.length+2*k+1]?=some p.2:=by
 have hp:=KL h
 have key:∀ j:Nat,(gkids v)[v.fields.length+v.list.length+j]?=(BV v.pairs)[j]?:=fun j=>by
  rw[ER,List.getElem?_append_right (by simp;omega),List.length_map,List.getElem?_append_right (by omega)]
  congr 1
  omega
 exact⟨by rw[key];exact hp.1,by rw[Nat.add_assoc,key];exact hp.2⟩
theorem QW(v:Vl):(gkids v).length=v.fields.length+v.list.length+2*v.pairs.length:=by
 rw[ER,List.length_append,List.length_append,List.length_map,H5]
 omega
abbrev sB(z:Int):BL:=[(3,⟨3,[.is (.int .i64 z)]⟩)]
abbrev YS(z:Int)(y:IV)(B1:BL)(R1:RL):Prop:=y=.tup []/\B1=sB z/\R1=[]
theorem YS.tidy{z z':Int}(y:IV)(B1:BL)(R1:RL)(h:YS z' y B1 R1):TS (sB z) [] y B1 R1:=by
 obtain⟨rfl,rfl,rfl⟩:=h
 exact⟨rfl,rfl,rfl,rfl⟩
set_option maxHeartbeats 1000000 in
theorem T3(f:FuncId)(hfc:B4 Tryz.prog f=true)(v:Vl)(hs:B8 v)(st:Nat->Int)(hc:∀ (k:Nat) x,(gkids v)[k]?=some x->EG Tryz.prog [] f [.part (.many (vd x)),.box 3 0] (sB (st k)) [] (YS (st (k+1)))):EG Tryz.prog [] 94 [.part (.many (vd v)),.clo (.func f) [] [.box 3 0]] (sB (st 0)) [] (YS (st (gkids v).length)):=by
 obtain⟨a1,a2,a3⟩:=F4 hs
 refine HS 49 Tryz.func94 rfl rfl rfl fun w D bor mb=>?_
 try refine A3 ?_
 refine AI ?_
 refine B9 2 rfl rfl rfl rfl (kn rfl) rfl rfl rfl rfl ?_
 refine AM ?_
 try refine A3 ?_
 refine A2 (A4 rfl rfl rfl (A1 rfl (kn rfl) off_27_3) (A4 rfl rfl rfl (A5 rfl (kn rfl) rfl rfl one_23) (A4 rfl rfl rfl (AR rfl (kn rfl) sle_23) (A9 rfl rfl rfl rfl rfl .nil)))) ?_
 try refine A3 ?_
 refine AX (ι:={ k:Nat // k<=(v.fields).length })
  (fun k=>[(1,.clo (.func f) [] [.box 3 0]),(2,.box 2 0),(11,.part (.one (.row 8 (v.fields).length ((v.fields).flatMap fieldDats)))),(12,.is (.int .i64 ((v.fields).length:Int))),(13,.is (.int .i64 (k.1:Int)))])
  (fun k=>[(3,⟨3,[.is (.int .i64 (st (k.1)))]⟩),(2,⟨27,bcs (vd v)⟩)]) (fun _=>[]) (fun k=>(v.fields).length-k.1) ⟨0,by omega⟩
  (fun K=>AL ⟨s_t,s_t,s_t,s_t,s_t,trivial⟩ ⟨s_b,s_b,trivial⟩ trivial) ?_
 rintro⟨k,hk⟩
 dsimp only at hk ⊢
 try refine A3 ?_
 refine A2 (A4 rfl rfl rfl (A6 rfl (kn rfl) (kn rfl) AY) .nil) ?_
 try refine A3 ?_
 refine AB rfl (fun h=>?_) (fun h=>?_)
 ·have hlt:k<v.fields.length:=by have:=of_decide_eq_true h;omega
  obtain⟨x,hx⟩:∃ x,v.fields[k]?=some x:=⟨_,List.getElem?_eq_getElem hlt⟩
  try refine A3 ?_
  refine AI ?_
  refine AQ (AJ rfl (kn rfl) (kn rfl) (by omega) hx B3 sle_23 esz_23 (B6 x)) ?_
  refine AQ (AH rfl (kn rfl) agg_79 sz_79) ?_
  refine AW 5 [.is (.int .i64 0),.is (.int .i64 0),.is (.int .u64 0),.is (.string ⟨#[]⟩),.is (.slice none 0 0),.is (.string ⟨#[]⟩),.is (.slice none 0 0),.is (.slice none 0 0)] rfl rfl rfl rfl zr_79 (fun w D M V=>⟨rfl,fun j x v h1 h2=>AV _ h1 h2 rfl⟩) rfl rfl rfl rfl ?_
  refine AT rfl rfl rfl (kn rfl) rfl (kn rfl) rfl rfl sz_79 ?_
  refine AM ?_
  try refine A3 ?_
  refine AI ?_
  refine D9 ?_
  refine AQ (A1 rfl (kn rfl) off_79_1) ?_
  refine AQ (A7 (ds:=[_,_,_,_,_,_,_]) 7 rfl (kn rfl) rfl rfl agg_27 sz_27 rfl) ?_
  refine FY (zs:=[_]) rfl rfl rfl rfl hfc (hc k x.2 (TZ hx)) ⟨rfl,trivial⟩ trivial (kn rfl) ⟨(kn rfl),trivial⟩ rfl (YS.tidy) ?_
  rintro _ _ _ ⟨rfl,rfl,rfl⟩
  refine AM ?_
  try refine A3 ?_
  refine A2 (A4 rfl rfl rfl (A6 rfl (kn rfl) (kn rfl) (AK (by first | omega | (dsimp only;omega)))) (A9 rfl rfl rfl rfl rfl .nil)) ?_
  try refine A3 ?_
  refine AS ⟨k+1,by omega⟩ (by dsimp only;omega) (fun K=>AL ⟨s_t,s_t,s_t,s_t,s_t,trivial⟩ ⟨s_b,s_b,trivial⟩ trivial)
 obtain rfl:k=v.fields.length:=by have:=of_decide_eq_false h;omega
 try refine A3 ?_
 refine A2 (A4 rfl rfl rfl (A1 rfl (kn rfl) off_27_5) (A4 rfl rfl rfl (A5 rfl (kn rfl) rfl rfl one_24) (A4 rfl rfl rfl (AR rfl (kn rfl) sle_24) (A9 rfl rfl rfl rfl rfl .nil)))) ?_
 try refine A3 ?_
 refine AX (ι:={ k:Nat // k<=(v.list).length })
  (fun k=>[(1,.clo (.func f) [] [.box 3 0]),(2,.box 2 0),(23,.part (.one (.row 7 (v.list).length ((v.list).flatMap Vl.dats)))),(24,.is (.int .i64 ((v.list).length:Int))),(25,.is (.int .i64 (k.1:Int)))])
  (fun k=>[(3,⟨3,[.is (.int .i64 (st (v.fields.length+k.1)))]⟩),(2,⟨27,bcs (vd v)⟩)]) (fun _=>[]) (fun k=>(v.list).length-k.1) ⟨0,by omega⟩
  (fun K=>AL ⟨s_t,s_t,s_t,s_t,s_t,trivial⟩ ⟨s_b,s_b,trivial⟩ trivial) ?_
 rintro⟨k,hk⟩
 dsimp only at hk ⊢
 try refine A3 ?_
 refine A2 (A4 rfl rfl rfl (A6 rfl (kn rfl) (kn rfl) AY) .nil) ?_
 try refine A3 ?_
 refine AB rfl (fun h=>?_) (fun h=>?_)
 ·have hlt:k<v.list.length:=by have:=of_decide_eq_true h;omega
  obtain⟨x,hx⟩:∃ x,v.list[k]?=some x:=⟨_,List.getElem?_eq_getElem hlt⟩
  try refine A3 ?_
  refine AI ?_
  refine AQ (AJ rfl (kn rfl) (kn rfl) (by omega) hx Vl.dats_len sle_24 esz_24 (CB x)) ?_
  refine AQ (AH rfl (kn rfl) agg_27 sz_27) ?_
  refine AW 7 [.is (.int .i64 0),.is (.int .u64 0),.is (.string ⟨#[]⟩),.is (.slice none 0 0),.is (.string ⟨#[]⟩),.is (.slice none 0 0),.is (.slice none 0 0)] rfl rfl rfl rfl zr_27 (fun w D M V=>⟨rfl,fun j x v h1 h2=>AV _ h1 h2 rfl⟩) rfl rfl rfl rfl ?_
  refine AT rfl rfl rfl (kn rfl) rfl (kn rfl) rfl rfl sz_27 ?_
  refine AM ?_
  try refine A3 ?_
  refine AI ?_
  refine D9 ?_
  refine AQ (A7 (ds:=[_,_,_,_,_,_,_]) 7 rfl (kn rfl) rfl rfl agg_27 sz_27 rfl) ?_
  refine FY (zs:=[_]) rfl rfl rfl rfl hfc (hc (v.fields.length+k) x (U0 hx)) ⟨rfl,trivial⟩ trivial (kn rfl) ⟨(kn rfl),trivial⟩ rfl (YS.tidy) ?_
  rintro _ _ _ ⟨rfl,rfl,rfl⟩
  refine AM ?_
  try refine A3 ?_
  refine A2 (A4 rfl rfl rfl (A6 rfl (kn rfl) (kn rfl) (AK (by first | omega | (dsimp only;omega)))) (A9 rfl rfl rfl rfl rfl .nil)) ?_
  try refine A3 ?_
  refine AS ⟨k+1,by omega⟩ (by dsimp only;omega) (fun K=>AL ⟨s_t,s_t,s_t,s_t,s_t,trivial⟩ ⟨s_b,s_b,trivial⟩ trivial)
 obtain rfl:k=v.list.length:=by have:=of_decide_eq_false h;omega
 try refine A3 ?_
 refine A2 (A4 rfl rfl rfl (A1 rfl (kn rfl) off_27_6) (A4 rfl rfl rfl (A5 rfl (kn rfl) rfl rfl one_25) (A4 rfl rfl rfl (AR rfl (kn rfl) sle_25) (A9 rfl rfl rfl rfl rfl .nil)))) ?_
 try refine A3 ?_
 refine AX (ι:={ k:Nat // k<=(v.pairs).length })
  (fun k=>[(1,.clo (.func f) [] [.box 3 0]),(2,.box 2 0),(34,.part (.one (.row 14 (v.pairs).length ((v.pairs).flatMap pairDats)))),(35,.is (.int .i64 ((v.pairs).length:Int))),(36,.is (.int .i64 (k.1:Int)))])
  (fun k=>[(3,⟨3,[.is (.int .i64 (st (v.fields.length+v.list.length+2*k.1)))]⟩),(2,⟨27,bcs (vd v)⟩)]) (fun _=>[]) (fun k=>(v.pairs).length-k.1) ⟨0,by omega⟩
  (fun K=>AL ⟨s_t,s_t,s_t,s_t,s_t,trivial⟩ ⟨s_b,s_b,trivial⟩ trivial) ?_
 rintro⟨k,hk⟩
 dsimp only at hk ⊢
 try refine A3 ?_
 refine A2 (A4 rfl rfl rfl (A6 rfl (kn rfl) (kn rfl) AY) .nil) ?_
 try refine A3 ?_
 refine AB rfl (fun h=>?_) (fun h=>?_)
 ·have hlt:k<v.pairs.length:=by have:=of_decide_eq_true h;omega
  obtain⟨x,hx⟩:∃ x,v.pairs[k]?=some x:=⟨_,List.getElem?_eq_getElem hlt⟩
  try refine A3 ?_
  refine AI ?_
  refine AQ (AJ rfl (kn rfl) (kn rfl) (by omega) hx B5 sle_25 esz_25 (BA x)) ?_
  refine AQ (AH rfl (kn rfl) agg_83 sz_83) ?_
  refine AW 9 [.is (.int .i64 0),.is (.int .u64 0),.is (.string ⟨#[]⟩),.is (.slice none 0 0),.is (.string ⟨#[]⟩),.is (.slice none 0 0),.is (.slice none 0 0),.is (.int .i64 0),.is (.int .u64 0),.is (.string ⟨#[]⟩),.is (.slice none 0 0),.is (.string ⟨#[]⟩),.is (.slice none 0 0),.is (.slice none 0 0)] rfl rfl rfl rfl zr_83 (fun w D M V=>⟨rfl,fun j x v h1 h2=>AV _ h1 h2 rfl⟩) rfl rfl rfl rfl ?_
  refine AT rfl rfl rfl (kn rfl) rfl (kn rfl) rfl rfl sz_83 ?_
  refine AM ?_
  try refine A3 ?_
  refine AI ?_
  refine D9 ?_
  refine AQ (A1 rfl (kn rfl) off_83_0) ?_
  refine AQ (A7 (ds:=[_,_,_,_,_,_,_]) 7 rfl (kn rfl) rfl rfl agg_27 sz_27 rfl) ?_
  refine FY (zs:=[_]) rfl rfl rfl rfl hfc (hc _ x.1 (PU hx).1) ⟨rfl,trivial⟩ trivial (kn rfl) ⟨(kn rfl),trivial⟩ rfl (YS.tidy) ?_
  rintro _ _ _ ⟨rfl,rfl,rfl⟩
  refine AM ?_
  try refine A3 ?_
  refine AI ?_
  refine D9 ?_
  refine AQ (A1 rfl (kn rfl) off_83_1) ?_
  refine AQ (A7 (ds:=[_,_,_,_,_,_,_]) 7 rfl (kn rfl) rfl rfl agg_27 sz_27 rfl) ?_
  refine FY (zs:=[_]) rfl rfl rfl rfl hfc (hc _ x.2 (PU hx).2) ⟨rfl,trivial⟩ trivial (kn rfl) ⟨(kn rfl),trivial⟩ rfl (YS.tidy) ?_
  rintro _ _ _ ⟨rfl,rfl,rfl⟩
  refine AM ?_
  try refine A3 ?_
  refine A2 (A4 rfl rfl rfl (A6 rfl (kn rfl) (kn rfl) (AK (by first | omega | (dsimp only;omega)))) (A9 rfl rfl rfl rfl rfl .nil)) ?_
  try refine A3 ?_
  refine AS ⟨k+1,by omega⟩ (by dsimp only;omega) (fun K=>AL ⟨s_t,s_t,s_t,s_t,s_t,trivial⟩ ⟨s_b,s_b,trivial⟩ trivial)
 obtain rfl:k=v.pairs.length:=by have:=of_decide_eq_false h;omega
 try refine A3 ?_
 rw[<- QW]
 exact RX (sB (st (gkids v).length)) [] rfl .nil (Imp.refl _) ⟨s_b,trivial⟩ trivial ⟨rfl,rfl,rfl⟩
theorem QI{P:Vl->Prop}(h:∀ v:Vl,(∀ x∈gkids v,P x)->P v)(v:Vl):P v:=by
 refine Vl.parts (fun v hf hl hp=>h v fun x hx=>?_) v
 simp only[ER,List.mem_append,List.mem_map]at hx
 rcases hx with⟨f,h1,rfl⟩ | h1 | h1
 ·exact hf f h1
 ·exact hl x h1
 ·unfold BV at h1
  obtain⟨p,h2,h3⟩:=List.mem_flatMap.1 h1
  simp only[List.mem_cons,List.not_mem_nil,or_false]at h3
  rcases h3 with rfl | rfl
  ·exact(hp p h2).1
  ·exact(hp p h2).2
theorem Q9{v:Vl}(h:B8 v){x:Vl}(hx:x∈gkids v):B8 x:=by
 have h0:vnodes v<=1000000:=h
 have h1:=GY hx
 have h2:=OZ v
 show vnodes x<=1000000
 omega
theorem PO(v:Vl):vsize v=if v.kind=0 then 0 else 1+lsize (gkids v):=by
 rw[ER,D1,D1,FG,FO,JT]
 split<;>omega
def LP(v:Vl):Prop:=EF Tryz.prog [] 76 [.many (vd v)] (.part (iP (vsize v)))
theorem SA(n m:Int)(x:Vl)(hx:LP x)(hm:n+vsize x=m)(h0:0<=n)(h1:m<=100000000):EG Tryz.prog [] 95 [.part (.many (vd x)),.box 3 0] (sB n) [] (YS m):=by
 subst hm
 refine HS 7 Tryz.func95 rfl rfl rfl fun w D bor mb=>?_
 try refine A3 ?_
 refine AI ?_
 refine B9 2 rfl rfl rfl rfl (kn rfl) rfl rfl rfl rfl ?_
 refine AM ?_
 try refine A3 ?_
 refine CX 4 BF (by kernel_rfl) (A4 rfl rfl rfl (A5 rfl (kn rfl) rfl rfl one_3) (A4 rfl rfl rfl (A7 (ds:=[_,_,_,_,_,_,_]) 7 rfl (kn rfl) rfl rfl agg_27 sz_27 rfl) (A4 rfl rfl rfl (AD rfl (by kernel_rfl) (hx) ⟨(kn rfl),trivial⟩) (A4 rfl rfl rfl (A6 rfl (kn rfl) (kn rfl) (AK (by first | omega | (dsimp only;omega)))) .nil)))) ?_
 refine C5 rfl rfl rfl (kn rfl) rfl (kn rfl) rfl rfl sz_3 rfl ?_
 refine AM ?_
 try refine A3 ?_
 exact RX (sB (n+vsize x)) [] rfl .nil (Imp.refl _) ⟨s_b,trivial⟩ trivial ⟨rfl,rfl,rfl⟩
theorem OG(v:Vl)(hs:B8 v)(ih:∀ x∈gkids v,LP x):LP v:=by
 have hn:=OZ v
 have hs0:vnodes v<=1000000:=hs
 have hE:=T3 95 (by kernel_rfl) v hs (fun k=>1+(lsize ((gkids v).take k):Int)) fun k x hx=>by
  have htk:=KE hx
  have hle:=HV ((gkids v).take (k+1))
  have hle2:=J5 (gkids v) (k+1)
  refine SA _ _ x (ih x (List.mem_of_getElem? hx)) ?_ (by omega) (by omega)
  rw[htk]
  omega
 rw[List.take_zero,List.take_length]at hE
 unfold LP
 refine AG 11 Tryz.func76 rfl rfl rfl fun w D=>?_
 try refine A3 ?_
 refine AI ?_
 refine B9 1 rfl rfl rfl rfl (kn rfl) rfl rfl rfl rfl ?_
 refine BX ?_
 refine AM ?_
 try refine A3 ?_
 refine A2 (A4 rfl rfl rfl (A1 rfl (kn rfl) off_27_0) (A4 rfl rfl rfl (A5 rfl (kn rfl) rfl rfl one_3) (A4 rfl rfl rfl (A6 rfl (kn rfl) (kn rfl) AP) .nil))) ?_
 try refine A3 ?_
 refine AB rfl (fun h=>?_) (fun h=>?_)
 ·have e:vsize v=0:=by rw[PO];exact if_pos (of_decide_eq_true h)
  try refine A3 ?_
  refine A2 (AC rfl rfl rfl rfl rfl .nil) ?_
  try refine A3 ?_
  exact A8 rfl rfl (.tmp (kn rfl) (.nil)) (Imp.of_eq (by rw[e];rfl)) rfl
 have e:vsize v=1+lsize (gkids v):=by rw[PO];exact if_neg (of_decide_eq_false h)
 try refine A3 ?_
 refine AI ?_
 refine AW 3 [.is (.int .i64 0)] rfl rfl rfl rfl zr_3 (fun w D M V=>⟨rfl,fun j x v h1 h2=>AV _ h1 h2 rfl⟩) rfl rfl rfl rfl ?_
 refine C5 rfl rfl rfl (kn rfl) rfl (kn rfl) rfl rfl sz_3 rfl ?_
 refine AM ?_
 try refine A3 ?_
 refine AI ?_
 refine AQ (A7 (ds:=[_,_,_,_,_,_,_]) 7 rfl (kn rfl) rfl rfl agg_27 sz_27 rfl) ?_
 refine AQ (RI (fs:=[]) (cs:=[.box 3 0]) rfl trivial ⟨(kn rfl),trivial⟩) ?_
 refine PX rfl rfl rfl rfl (by kernel_rfl) (hE) ⟨rfl,trivial⟩ trivial ⟨(kn rfl),⟨(kn rfl),trivial⟩⟩ (YS.tidy) ?_
 rintro _ _ _ ⟨rfl,rfl,rfl⟩
 refine AM ?_
 try refine A3 ?_
 refine A2 (A4 rfl rfl rfl (A5 rfl (kn rfl) rfl rfl one_3) (AC rfl rfl rfl rfl rfl .nil)) ?_
 try refine A3 ?_
 exact A8 rfl rfl (.tmp (kn rfl) (.nil)) (Imp.of_eq (by rw[e];simp;rfl)) rfl
theorem HK(v:Vl)(hs:B8 v):LP v:=by
 revert hs
 exact QI (P:=fun v=>B8 v->LP v) (fun v ih hs=>OG v hs fun x hx=>ih x hx (Q9 hs hx)) v
end Go.Proofs.YtojdpgeeajaojaaGreat
