/- Part 14. Conditions: as each theorem says. -/
import Derived.Test.YtojdpgeeajaojaaES13
import Derived.Test.YtojdpgeeajaojaaProg
set_option maxRecDepth 100000
namespace Go.Proofs.Ytojdpgeeajaojaa
open Go.RowKit
def C2(v:Vl):Prop:=EF Try.prog [] 6 [.many (vd v)] (.part (tP (vright v)))
theorem N2(f:Int×Vl)(hr:C2 f.2):EF Try.prog [] 15 [.many (fd f)] (.part (tP (fok f))):=by
 refine AF 17 Try.func15 rfl rfl rfl fun w D=>?_
 try refine A2 ?_
 refine AI ?_
 refine BB 1 rfl rfl rfl rfl (kn rfl) rfl rfl rfl rfl ?_
 refine CM ?_
 refine AN ?_
 try refine A2 ?_
 refine A0 (A3 rfl rfl rfl (A4 rfl (kn rfl) off_44_0) (A3 rfl rfl rfl (A6 rfl (kn rfl) rfl rfl one_3) (A3 rfl rfl rfl (AG rfl (by kernel_rfl) (HM f.1) ⟨(kn rfl),trivial⟩) (A8 rfl rfl rfl rfl rfl (Walk.gd _ rfl rfl rfl (fun h=>A4 rfl (kn rfl) off_44_1) (Walk.gd _ rfl rfl rfl (fun h=>A4 rfl (A1 rfl h) off_27_0) (Walk.gd _ rfl rfl rfl (fun h=>A6 rfl (A1 rfl h) rfl rfl one_3) (Walk.gd _ rfl rfl rfl (fun h=>A9 rfl (A1 rfl h) (kn rfl) C8) (A3 rfl rfl rfl (AJ rfl (kn rfl) (fun hb=>A1 rfl hb)) (A8 rfl rfl rfl rfl rfl (Walk.gd _ rfl rfl rfl (fun h=>A4 rfl (kn rfl) off_44_1) (Walk.gd _ rfl rfl rfl (fun h=>AB (ds:=[_,_,_,_,_,_,_]) 7 rfl (A1 rfl h) rfl rfl agg_27 sz_27 rfl) (Walk.gd _ rfl rfl rfl (fun h=>AG rfl (by kernel_rfl) (hr) ⟨(A1 rfl h),trivial⟩) (A3 rfl rfl rfl (AJ rfl (kn rfl) (fun hb=>A1 rfl hb)) (AD rfl rfl rfl rfl rfl .nil))))))))))))))) ?_
 try refine A2 ?_
 exact A7 rfl rfl (.tmp (kn rfl) (.nil)) (AL rfl) rfl
theorem IT(x:Vl)(hr:C2 x):EF Try.prog [] 19 [.many (vd x)] (.part (tP (ES x))):=by
 refine AF 15 Try.func19 rfl rfl rfl fun w D=>?_
 try refine A2 ?_
 refine AI ?_
 refine BB 1 rfl rfl rfl rfl (kn rfl) rfl rfl rfl rfl ?_
 refine CM ?_
 refine AN ?_
 try refine A2 ?_
 refine A0 (A3 rfl rfl rfl (A4 rfl (kn rfl) off_27_0) (A3 rfl rfl rfl (A6 rfl (kn rfl) rfl rfl one_3) (A3 rfl rfl rfl (A9 rfl (kn rfl) (kn rfl) D1) (A8 rfl rfl rfl rfl rfl (Walk.gd _ rfl rfl rfl (fun h=>A4 rfl (kn rfl) off_27_0) (Walk.gd _ rfl rfl rfl (fun h=>A6 rfl (A1 rfl h) rfl rfl one_3) (Walk.gd _ rfl rfl rfl (fun h=>A9 rfl (A1 rfl h) (kn rfl) KC) (A3 rfl rfl rfl (AJ rfl (kn rfl) (fun hb=>A1 rfl hb)) (A8 rfl rfl rfl rfl rfl (Walk.gd _ rfl rfl rfl (fun h=>AB (ds:=[_,_,_,_,_,_,_]) 7 rfl (kn rfl) rfl rfl agg_27 sz_27 rfl) (Walk.gd _ rfl rfl rfl (fun h=>AG rfl (by kernel_rfl) (hr) ⟨(A1 rfl h),trivial⟩) (A3 rfl rfl rfl (AJ rfl (kn rfl) (fun hb=>A1 rfl hb)) (AD rfl rfl rfl rfl rfl .nil))))))))))))) ?_
 try refine A2 ?_
 exact A7 rfl rfl (.tmp (kn rfl) (.nil)) (AL rfl) rfl
theorem JB(p:Vl×Vl)(h1:C2 p.1)(h2:C2 p.2):EF Try.prog [] 29 [.many (pd p)] (.part (tP (vright p.1&&ES p.2))):=by
 refine AF 11 Try.func29 rfl rfl rfl fun w D=>?_
 try refine A2 ?_
 refine AI ?_
 refine BB 1 rfl rfl rfl rfl (kn rfl) rfl rfl rfl rfl ?_
 refine CM ?_
 refine AN ?_
 try refine A2 ?_
 refine A0 (A3 rfl rfl rfl (A4 rfl (kn rfl) off_55_0) (A3 rfl rfl rfl (AB (ds:=[_,_,_,_,_,_,_]) 7 rfl (kn rfl) rfl rfl agg_27 sz_27 rfl) (A3 rfl rfl rfl (AG rfl (by kernel_rfl) (h1) ⟨(kn rfl),trivial⟩) (A8 rfl rfl rfl rfl rfl (Walk.gd _ rfl rfl rfl (fun h=>A4 rfl (kn rfl) off_55_1) (Walk.gd _ rfl rfl rfl (fun h=>AB (ds:=[_,_,_,_,_,_,_]) 7 rfl (A1 rfl h) rfl rfl agg_27 sz_27 rfl) (Walk.gd _ rfl rfl rfl (fun h=>AG rfl (by kernel_rfl) (IT p.2 h2) ⟨(A1 rfl h),trivial⟩) (A3 rfl rfl rfl (AJ rfl (kn rfl) (fun hb=>A1 rfl hb)) (AD rfl rfl rfl rfl rfl .nil))))))))) ?_
 try refine A2 ?_
 exact A7 rfl rfl (.tmp (kn rfl) (.nil)) (AL rfl) rfl
theorem OR(z:Int)(p:Vl×Vl)(h1:C2 p.1)(h2:C2 p.2):EG Try.prog [] 28 [.part (.many (pd p)),.box 3 0] (kB z) [] (YB z (pok z p)):=by
 refine FQ 13 Try.func28 rfl rfl rfl fun w D bor mb=>?_
 try refine A2 ?_
 refine AI ?_
 refine BB 2 rfl rfl rfl rfl (kn rfl) rfl rfl rfl rfl ?_
 refine CM ?_
 refine AN ?_
 try refine A2 ?_
 refine A0 (A3 rfl rfl rfl (A4 rfl (kn rfl) off_55_0) (A3 rfl rfl rfl (A4 rfl (kn rfl) off_27_0) (A3 rfl rfl rfl (A6 rfl (kn rfl) rfl rfl one_3) (A3 rfl rfl rfl (A6 rfl (kn rfl) rfl rfl one_3) (A3 rfl rfl rfl (A9 rfl (kn rfl) (kn rfl) AK) (A8 rfl rfl rfl rfl rfl (Walk.gd _ rfl rfl rfl (fun h=>AB (ds:=[_,_,_,_,_,_,_,_,_,_,_,_,_,_]) 14 rfl (kn rfl) rfl rfl agg_55 sz_55 rfl) (Walk.gd _ rfl rfl rfl (fun h=>AG rfl (by kernel_rfl) (JB p h1 h2) ⟨(A1 rfl h),trivial⟩) (A3 rfl rfl rfl (AJ rfl (kn rfl) (fun hb=>A1 rfl hb)) (AD rfl rfl rfl rfl rfl .nil)))))))))) ?_
 try refine A2 ?_
 exact G1 (kB z) ([]) rfl (.tmp (kn rfl) (.nil)) (Imp.refl _) ⟨s_b,trivial⟩ trivial (⟨rfl,rfl,rfl⟩)
theorem IA(v:Vl)(hs:AU v)(hv:v.pairs≠[])(hp:∀ p∈v.pairs,C2 p.1/\C2 p.2):EF Try.prog [] 20 [.many (vd v)] (.part (tP (CG v.pairs))):=by
 obtain⟨p0,hp0⟩:∃ p0,v.pairs[0]?=some p0:=⟨_,List.getElem?_eq_getElem (List.length_pos_iff.2 hv)⟩
 have e:CG v.pairs=((decide (p0.1.kind=1)||decide (p0.1.kind=2))&&(v.pairs.all (pok p0.1.kind)&&B3 IN v.pairs)):=by
  revert hp0
  cases v.pairs with
  | nil=>intro h;cases h
  | cons q ps=>
   intro h
   obtain rfl:q=p0:=by simpa using h
   rfl
 have hlen:=(DJ hs).2.2
 refine AF 25 Try.func20 rfl rfl rfl fun w D=>?_
 try refine A2 ?_
 refine AI ?_
 refine BB 1 rfl rfl rfl rfl (kn rfl) rfl rfl rfl rfl ?_
 refine CM ?_
 refine AN ?_
 try refine A2 ?_
 refine AI ?_
 refine AV (A4 rfl (kn rfl) off_27_6) ?_
 refine AV (A6 rfl (kn rfl) rfl rfl one_25) ?_
 refine AV (AO rfl (kn rfl) (kn rfl) (by omega) hp0 BG sle_25 esz_25 (BR p0)) ?_
 refine AV (A5 rfl (kn rfl) off_55_0) ?_
 refine AV (A5 rfl (kn rfl) off_27_0) ?_
 refine AV (AC rfl (kn rfl) one_3) ?_
 refine B6 3 [.is (.int .i64 0)] rfl rfl rfl rfl zr_3 (fun w D M V=>⟨rfl,fun j x v h1 h2=>B7 _ h1 h2 rfl⟩) rfl rfl rfl rfl ?_
 refine BF rfl rfl rfl (kn rfl) rfl (kn rfl) rfl rfl sz_3 rfl ?_
 refine AN ?_
 try refine A2 ?_
 refine A0 (A3 rfl rfl rfl (A6 rfl (kn rfl) rfl rfl one_3) (A3 rfl rfl rfl (A9 rfl (kn rfl) (kn rfl) C8) (A8 rfl rfl rfl rfl rfl (Walk.gd _ rfl rfl rfl (fun h=>A6 rfl (kn rfl) rfl rfl one_3) (Walk.gd _ rfl rfl rfl (fun h=>A9 rfl (A1 rfl h) (kn rfl) C8) (A3 rfl rfl rfl (AJ rfl (kn rfl) (fun hb=>A1 rfl hb)) .nil)))))) ?_
 try refine A2 ?_
 refine AE rfl (fun h1=>?_) (fun h1=>?_)
 ·have e2:CG v.pairs=false:=by
   rw[e]
   have h2:¬ p0.1.kind=1/\¬ p0.1.kind=2:=by simpa using h1
   rw[decide_eq_false h2.1,decide_eq_false h2.2]
   rfl
  try refine A2 ?_
  refine A0 (AD rfl rfl rfl rfl rfl .nil) ?_
  try refine A2 ?_
  exact A7 rfl rfl (.tmp (kn rfl) (.nil)) (AL e2.symm) rfl
 have e2:CG v.pairs=(v.pairs.all (pok p0.1.kind)&&B3 IN v.pairs):=by
  have h2:p0.1.kind=1\/p0.1.kind=2:=by
   rcases Decidable.em (p0.1.kind=1)with h | h
   ·exact .inl h
   ·refine .inr ?_
    have h3:¬ p0.1.kind=1->p0.1.kind=2:=by simpa using h1
    exact h3 h
  rw[e]
  rcases h2 with h2 | h2<;>rw[h2]<;>rfl
 try refine A2 ?_
 refine AI ?_
 refine AV (A4 rfl (kn rfl) off_27_6) ?_
 refine AV (A6 rfl (kn rfl) rfl rfl one_25) ?_
 refine AV (NY (fs:=[]) (cs:=[.box 3 0]) rfl trivial ⟨(kn rfl),trivial⟩) ?_
 refine M9 rfl rfl rfl rfl (by kernel_rfl) (J5 p0.1.kind v.pairs hlen (pok p0.1.kind) (fun x hx=>OR p0.1.kind x (hp x hx).1 (hp x hx).2)) ⟨rfl,trivial⟩ trivial ⟨(kn rfl),⟨(kn rfl),trivial⟩⟩ (YB.tidy) ?_
 rintro _ _ _ ⟨rfl,rfl,rfl⟩
 refine E7 ?_
 refine EP rfl rfl rfl (fun h=>A4 rfl (kn rfl) off_27_6) ?_
 refine EP rfl rfl rfl (fun h=>A6 rfl (A1 rfl h) rfl rfl one_25) ?_
 refine EP rfl rfl rfl (fun h=>AG rfl (by kernel_rfl) (HU 31 (by kernel_rfl) v.pairs hlen IN (fun x hx y hy=>KB x y (EC x.1 (BZ hs hx).1 y.1 (BZ hs hy).1))) ⟨(A1 rfl h),⟨(kn rfl),trivial⟩⟩) ?_
 refine AV (AJ rfl (kn rfl) (fun hb=>A1 rfl hb)) ?_
 refine CM ?_
 refine AN ?_
 try refine A2 ?_
 exact A7 rfl rfl (.tmp (kn rfl) (.nil)) (AL e2.symm) rfl
set_option maxHeartbeats 1000000 in
theorem JK(v:Vl)(hs:AU v)(hf:∀ f∈v.fields,C2 f.2)(hl:∀ x∈v.list,C2 x)(hp:∀ p∈v.pairs,C2 p.1/\C2 p.2):C2 v:=by
 unfold C2
 rw[JZ]
 obtain⟨a1,a2,a3⟩:=DJ hs
 refine AF 43 Try.func6 rfl rfl rfl fun w D=>?_
 try refine A2 ?_
 refine AI ?_
 refine BB 1 rfl rfl rfl rfl (kn rfl) rfl rfl rfl rfl ?_
 refine CM ?_
 refine AN ?_
 try refine A2 ?_
 refine A0 (A3 rfl rfl rfl (AB (ds:=[_,_,_,_,_,_,_]) 7 rfl (kn rfl) rfl rfl agg_27 sz_27 rfl) (A3 rfl rfl rfl (AG rfl (by kernel_rfl) (OY v) ⟨(kn rfl),trivial⟩) (A3 rfl rfl rfl (C1 rfl (kn rfl)) .nil))) ?_
 try refine A2 ?_
 refine AE rfl (fun h=>?_) (fun h=>?_)
 ·have e:EH v=false:=by
   unfold EH
   rw[show E6 v=false by simpa using h]
   rfl
  try refine A2 ?_
  refine A0 (AD rfl rfl rfl rfl rfl .nil) ?_
  try refine A2 ?_
  exact A7 rfl rfl (.tmp (kn rfl) (.nil)) (AL e.symm) rfl
 have e:EH v=(if v.kind=0\/v.kind=1\/v.kind=2 then true else if v.kind=3 then v.fields.all fok&&B3 GG v.fields else if v.kind=4 then decide (v.list≠[])&&v.list.all ES else if v.kind=5 then CG v.pairs else false):=by
  unfold EH
  rw[show E6 v=true by simpa using h]
  exact Bool.true_and _
 clear h
 try refine A2 ?_
 refine A0 (A3 rfl rfl rfl (A4 rfl (kn rfl) off_27_0) (A3 rfl rfl rfl (A6 rfl (kn rfl) rfl rfl one_3) .nil)) ?_
 try refine A2 ?_
 try refine A2 ?_
 refine A0 (A3 rfl rfl rfl (A9 rfl (kn rfl) (kn rfl) AK) (AD rfl rfl rfl rfl rfl .nil)) ?_
 try refine A2 ?_
 refine AE rfl (fun q0=>?_) (fun q0=>?_)
 ·try refine A2 ?_
  refine AE rfl (fun _=>?_) (fun h=>absurd (h.symm.trans q0) (by decide))
  try refine A2 ?_
  refine A0 (AD rfl rfl rfl rfl rfl .nil) ?_
  try refine A2 ?_
  exact A7 rfl rfl (.tmp (kn rfl) (.nil)) (AL (by rw[e];exact(if_pos (.inl (of_decide_eq_true q0))).symm)) rfl
 try refine A2 ?_
 refine A0 (A3 rfl rfl rfl (A9 rfl (kn rfl) (kn rfl) AK) (AD rfl rfl rfl rfl rfl .nil)) ?_
 try refine A2 ?_
 refine AE rfl (fun q1=>?_) (fun q1=>?_)
 ·try refine A2 ?_
  refine AE rfl (fun _=>?_) (fun h=>absurd (h.symm.trans q1) (by decide))
  try refine A2 ?_
  refine A0 (AD rfl rfl rfl rfl rfl .nil) ?_
  try refine A2 ?_
  exact A7 rfl rfl (.tmp (kn rfl) (.nil)) (AL (by rw[e];exact(if_pos (.inr (.inl (of_decide_eq_true q1)))).symm)) rfl
 try refine A2 ?_
 refine A0 (A3 rfl rfl rfl (A9 rfl (kn rfl) (kn rfl) AK) (AD rfl rfl rfl rfl rfl .nil)) ?_
 try refine A2 ?_
 try refine A2 ?_
 refine AE rfl (fun q2=>?_) (fun q2=>?_)
 ·try refine A2 ?_
  refine A0 (AD rfl rfl rfl rfl rfl .nil) ?_
  try refine A2 ?_
  exact A7 rfl rfl (.tmp (kn rfl) (.nil)) (AL (by rw[e];exact(if_pos (.inr (.inr (of_decide_eq_true q2)))).symm)) rfl
 have n0:=of_decide_eq_false q0
 have n1:=of_decide_eq_false q1
 have n2:=of_decide_eq_false q2
 rw[if_neg (by omega)]at e
 try refine A2 ?_
 refine A0 (A3 rfl rfl rfl (A9 rfl (kn rfl) (kn rfl) AK) (AD rfl rfl rfl rfl rfl .nil)) ?_
 try refine A2 ?_
 refine AE rfl (fun q3=>?_) (fun q3=>?_)
 ·rw[if_pos (of_decide_eq_true q3)]at e
  try refine A2 ?_
  refine A0 (A3 rfl rfl rfl (A4 rfl (kn rfl) off_27_3) (A3 rfl rfl rfl (A6 rfl (kn rfl) rfl rfl one_23) (A3 rfl rfl rfl (AG rfl (by kernel_rfl) (I7 15 (by kernel_rfl) v.fields a1 fok (fun x hx=>N2 x (hf x hx))) ⟨(kn rfl),⟨(kn rfl),trivial⟩⟩) (A8 rfl rfl rfl rfl rfl (Walk.gd _ rfl rfl rfl (fun h=>A4 rfl (kn rfl) off_27_3) (Walk.gd _ rfl rfl rfl (fun h=>A6 rfl (A1 rfl h) rfl rfl one_23) (Walk.gd _ rfl rfl rfl (fun h=>AG rfl (by kernel_rfl) (GL 17 (by kernel_rfl) v.fields a1 GG (fun x _ y _=>G9 x y)) ⟨(A1 rfl h),⟨(kn rfl),trivial⟩⟩) (A3 rfl rfl rfl (AJ rfl (kn rfl) (fun hb=>A1 rfl hb)) (AD rfl rfl rfl rfl rfl .nil))))))))) ?_
  try refine A2 ?_
  exact A7 rfl rfl (.tmp (kn rfl) (.nil)) (AL e.symm) rfl
 rw[if_neg (of_decide_eq_false q3)]at e
 try refine A2 ?_
 refine A0 (A3 rfl rfl rfl (A9 rfl (kn rfl) (kn rfl) AK) (AD rfl rfl rfl rfl rfl .nil)) ?_
 try refine A2 ?_
 refine AE rfl (fun q4=>?_) (fun q4=>?_)
 ·rw[if_pos (of_decide_eq_true q4)]at e
  try refine A2 ?_
  refine A0 (A3 rfl rfl rfl (A4 rfl (kn rfl) off_27_5) (A3 rfl rfl rfl (A6 rfl (kn rfl) rfl rfl one_24) (A3 rfl rfl rfl (AS rfl (kn rfl) sle_24) (A3 rfl rfl rfl (A9 rfl (kn rfl) (kn rfl) DG) (A8 rfl rfl rfl rfl rfl (Walk.gd _ rfl rfl rfl (fun h=>A4 rfl (kn rfl) off_27_5) (Walk.gd _ rfl rfl rfl (fun h=>A6 rfl (A1 rfl h) rfl rfl one_24) (Walk.gd _ rfl rfl rfl (fun h=>AG rfl (by kernel_rfl) (KL 19 (by kernel_rfl) v.list a2 ES (fun x hx=>IT x (hl x hx))) ⟨(A1 rfl h),⟨(kn rfl),trivial⟩⟩) (A3 rfl rfl rfl (AJ rfl (kn rfl) (fun hb=>A1 rfl hb)) (AD rfl rfl rfl rfl rfl .nil)))))))))) ?_
  try refine A2 ?_
  exact A7 rfl rfl (.tmp (kn rfl) (.nil)) (AL (by rw[e];simp[Nat.pos_iff_ne_zero])) rfl
 rw[if_neg (of_decide_eq_false q4)]at e
 try refine A2 ?_
 refine A0 (A3 rfl rfl rfl (A9 rfl (kn rfl) (kn rfl) AK) (AD rfl rfl rfl rfl rfl .nil)) ?_
 try refine A2 ?_
 refine AE rfl (fun q5=>?_) (fun q5=>?_)
 ·rw[if_pos (of_decide_eq_true q5)]at e
  try refine A2 ?_
  refine A0 (A3 rfl rfl rfl (A4 rfl (kn rfl) off_27_6) (A3 rfl rfl rfl (A6 rfl (kn rfl) rfl rfl one_25) (A3 rfl rfl rfl (AS rfl (kn rfl) sle_25) (A3 rfl rfl rfl (A9 rfl (kn rfl) (kn rfl) DG) (A8 rfl rfl rfl rfl rfl (Walk.gd _ rfl rfl rfl (fun h=>AB (ds:=[_,_,_,_,_,_,_]) 7 rfl (kn rfl) rfl rfl agg_27 sz_27 rfl) (Walk.gd _ rfl rfl rfl (fun h=>AG rfl (by kernel_rfl) (IA v hs (List.length_pos_iff.1 (by have:=of_decide_eq_true h;omega)) hp) ⟨(A1 rfl h),trivial⟩) (A3 rfl rfl rfl (AJ rfl (kn rfl) (fun hb=>A1 rfl hb)) (AD rfl rfl rfl rfl rfl .nil))))))))) ?_
  try refine A2 ?_
  exact A7 rfl rfl (.tmp (kn rfl) (.nil)) (AL (by rw[e];cases hv:v.pairs<;>simp[CG])) rfl
 rw[if_neg (of_decide_eq_false q5)]at e
 try refine A2 ?_
 refine A0 (AD rfl rfl rfl rfl rfl .nil) ?_
 try refine A2 ?_
 exact A7 rfl rfl (.tmp (kn rfl) (.nil)) (AL e.symm) rfl
theorem CC(v:Vl)(hv:AU v):C2 v:=by
 revert hv
 exact Vl.parts (P:=fun a=>AU a->C2 a) (fun v hf hl hp ha=>JK v ha (fun f h=>hf f h (E9 ha h)) (fun x h=>hl x h (F1 ha h)) (fun p h=>⟨(hp p h).1 (BZ ha h).1,(hp p h).2 (BZ ha h).2⟩)) v
theorem H4:∀ {ps:List (Vl×Vl)} {k:Nat} {p:Vl×Vl},ps[k]?=some p->(BQ ps)[2*k]?=some p.1/\(BQ ps)[2*k+1]?=some p.2
 | [],_,_,h=>by simp at h
 | q::ps,0,p,h=>by
  obtain rfl:q=p:=by simpa using h
  rw[D5]
  exact⟨rfl,rfl⟩
 | q::ps,k+1,p,h=>by
  have h1:=H4 (ps:=ps) (k:=k) (p:=p) (by simpa using h)
  rw[D5,show 2*(k+1)=2*k+1+1 by omega]
  exact⟨by simpa using h1.1,by simpa using h1.2⟩
theorem DI(v:Vl):gkids v=v.fields.map (·.2)++(v.list++BQ v.pairs):=rfl
theorem OX{v:Vl}{k:Nat}{f:Int×Vl}(h:v.fields[k]?=some f):(gkids v)[k]?=some f.2:=by
 have hk:=(List.getElem?_eq_some_iff.1 h).1
 rw[DI,List.getElem?_append_left (by simpa using hk),List.getElem?_map,h]
 rfl
theorem P9{v:Vl}{k:Nat}{x:Vl}(h:v.list[k]?=some x):(gkids v)[v.fields.length+k]?=some x:=by
 have hk:=(List.getElem?_eq_some_iff.1 h).1
 rw[DI,List.getElem?_append_right (by simp),List.length_map,Nat.add_sub_cancel_left,List.getElem?_append_left hk,h]
theorem M7{v:Vl}{k:Nat}{p:Vl×Vl}(h:v.pairs[k]?=some p):(gkids v)[v.fields.length+v.list.length+2*k]?=some p.1/\(gkids v)[v.fields.length+v.list.length+2*k+1]?=some p.2:=by
 have hp:=H4 h
 have key:∀ j:Nat,(gkids v)[v.fields.length+v.list.length+j]?=(BQ v.pairs)[j]?:=fun j=>by
  rw[DI,List.getElem?_append_right (by simp;omega),List.length_map,List.getElem?_append_right (by omega)]
  congr 1
  omega
 exact⟨by rw[key];exact hp.1,by rw[Nat.add_assoc,key];exact hp.2⟩
theorem MW(v:Vl):(gkids v).length=v.fields.length+v.list.length+2*v.pairs.length:=by
 rw[DI,List.length_append,List.length_append,List.length_map,LU]
 omega
abbrev sB(z:Int):BL:=[(3,⟨3,[.is (.int .i64 z)]⟩)]
abbrev YS(z:Int)(y:IV)(B1:BL)(R1:RL):Prop:=y=.tup []/\B1=sB z/\R1=[]
theorem YS.tidy{z z':Int}(y:IV)(B1:BL)(R1:RL)(h:YS z' y B1 R1):PE (sB z) [] y B1 R1:=by
 obtain⟨rfl,rfl,rfl⟩:=h
 exact⟨rfl,rfl,rfl,rfl⟩
set_option maxHeartbeats 1000000 in
theorem P5(f:FuncId)(hfc:AT Try.prog f=true)(v:Vl)(hs:AU v)(st:Nat->Int)(hc:∀ (k:Nat) x,(gkids v)[k]?=some x->EG Try.prog [] f [.part (.many (vd x)),.box 3 0] (sB (st k)) [] (YS (st (k+1)))):EG Try.prog [] 76 [.part (.many (vd v)),.clo (.func f) [] [.box 3 0]] (sB (st 0)) [] (YS (st (gkids v).length)):=by
 obtain⟨a1,a2,a3⟩:=DJ hs
 refine FQ 49 Try.func76 rfl rfl rfl fun w D bor mb=>?_
 try refine A2 ?_
 refine AI ?_
 refine BB 2 rfl rfl rfl rfl (kn rfl) rfl rfl rfl rfl ?_
 refine AN ?_
 try refine A2 ?_
 refine A0 (A3 rfl rfl rfl (A4 rfl (kn rfl) off_27_3) (A3 rfl rfl rfl (A6 rfl (kn rfl) rfl rfl one_23) (A3 rfl rfl rfl (AS rfl (kn rfl) sle_23) (A8 rfl rfl rfl rfl rfl .nil)))) ?_
 try refine A2 ?_
 refine BC (ι:={ k:Nat // k<=(v.fields).length })
  (fun k=>[(1,.clo (.func f) [] [.box 3 0]),(2,.box 2 0),(11,.part (.one (.row 8 (v.fields).length ((v.fields).flatMap fieldDats)))),(12,.is (.int .i64 ((v.fields).length:Int))),(13,.is (.int .i64 (k.1:Int)))])
  (fun k=>[(3,⟨3,[.is (.int .i64 (st (k.1)))]⟩),(2,⟨27,bcs (vd v)⟩)]) (fun _=>[]) (fun k=>(v.fields).length-k.1) ⟨0,by omega⟩
  (fun K=>AP ⟨s_t,s_t,s_t,s_t,s_t,trivial⟩ ⟨s_b,s_b,trivial⟩ trivial) ?_
 rintro⟨k,hk⟩
 dsimp only at hk ⊢
 try refine A2 ?_
 refine A0 (A3 rfl rfl rfl (A9 rfl (kn rfl) (kn rfl) BE) .nil) ?_
 try refine A2 ?_
 refine AE rfl (fun h=>?_) (fun h=>?_)
 ·have hlt:k<v.fields.length:=by have:=of_decide_eq_true h;omega
  obtain⟨x,hx⟩:∃ x,v.fields[k]?=some x:=⟨_,List.getElem?_eq_getElem hlt⟩
  try refine A2 ?_
  refine AI ?_
  refine AV (AO rfl (kn rfl) (kn rfl) (by omega) hx BH sle_23 esz_23 (BU x)) ?_
  refine AV (AR rfl (kn rfl) agg_44 sz_44) ?_
  refine B6 5 [.is (.int .i64 0),.is (.int .i64 0),.is (.int .u64 0),.is (.string ⟨#[]⟩),.is (.slice none 0 0),.is (.string ⟨#[]⟩),.is (.slice none 0 0),.is (.slice none 0 0)] rfl rfl rfl rfl zr_44 (fun w D M V=>⟨rfl,fun j x v h1 h2=>B7 _ h1 h2 rfl⟩) rfl rfl rfl rfl ?_
  refine B4 rfl rfl rfl (kn rfl) rfl (kn rfl) rfl rfl sz_44 ?_
  refine AN ?_
  try refine A2 ?_
  refine AI ?_
  refine E7 ?_
  refine AV (A4 rfl (kn rfl) off_44_1) ?_
  refine AV (AB (ds:=[_,_,_,_,_,_,_]) 7 rfl (kn rfl) rfl rfl agg_27 sz_27 rfl) ?_
  refine E1 (zs:=[_]) rfl rfl rfl rfl hfc (hc k x.2 (OX hx)) ⟨rfl,trivial⟩ trivial (kn rfl) ⟨(kn rfl),trivial⟩ rfl (YS.tidy) ?_
  rintro _ _ _ ⟨rfl,rfl,rfl⟩
  refine AN ?_
  try refine A2 ?_
  refine A0 (A3 rfl rfl rfl (A9 rfl (kn rfl) (kn rfl) (AM (by first | omega | (dsimp only;omega)))) (A8 rfl rfl rfl rfl rfl .nil)) ?_
  try refine A2 ?_
  refine AZ ⟨k+1,by omega⟩ (by dsimp only;omega) (fun K=>AP ⟨s_t,s_t,s_t,s_t,s_t,trivial⟩ ⟨s_b,s_b,trivial⟩ trivial)
 obtain rfl:k=v.fields.length:=by have:=of_decide_eq_false h;omega
 try refine A2 ?_
 refine A0 (A3 rfl rfl rfl (A4 rfl (kn rfl) off_27_5) (A3 rfl rfl rfl (A6 rfl (kn rfl) rfl rfl one_24) (A3 rfl rfl rfl (AS rfl (kn rfl) sle_24) (A8 rfl rfl rfl rfl rfl .nil)))) ?_
 try refine A2 ?_
 refine BC (ι:={ k:Nat // k<=(v.list).length })
  (fun k=>[(1,.clo (.func f) [] [.box 3 0]),(2,.box 2 0),(23,.part (.one (.row 7 (v.list).length ((v.list).flatMap Vl.dats)))),(24,.is (.int .i64 ((v.list).length:Int))),(25,.is (.int .i64 (k.1:Int)))])
  (fun k=>[(3,⟨3,[.is (.int .i64 (st (v.fields.length+k.1)))]⟩),(2,⟨27,bcs (vd v)⟩)]) (fun _=>[]) (fun k=>(v.list).length-k.1) ⟨0,by omega⟩
  (fun K=>AP ⟨s_t,s_t,s_t,s_t,s_t,trivial⟩ ⟨s_b,s_b,trivial⟩ trivial) ?_
 rintro⟨k,hk⟩
 dsimp only at hk ⊢
 try refine A2 ?_
 refine A0 (A3 rfl rfl rfl (A9 rfl (kn rfl) (kn rfl) BE) .nil) ?_
 try refine A2 ?_
 refine AE rfl (fun h=>?_) (fun h=>?_)
 ·have hlt:k<v.list.length:=by have:=of_decide_eq_true h;omega
  obtain⟨x,hx⟩:∃ x,v.list[k]?=some x:=⟨_,List.getElem?_eq_getElem hlt⟩
  try refine A2 ?_
  refine AI ?_
  refine AV (AO rfl (kn rfl) (kn rfl) (by omega) hx Vl.dats_len sle_24 esz_24 (CI x)) ?_
  refine AV (AR rfl (kn rfl) agg_27 sz_27) ?_
  refine B6 7 [.is (.int .i64 0),.is (.int .u64 0),.is (.string ⟨#[]⟩),.is (.slice none 0 0),.is (.string ⟨#[]⟩),.is (.slice none 0 0),.is (.slice none 0 0)] rfl rfl rfl rfl zr_27 (fun w D M V=>⟨rfl,fun j x v h1 h2=>B7 _ h1 h2 rfl⟩) rfl rfl rfl rfl ?_
  refine B4 rfl rfl rfl (kn rfl) rfl (kn rfl) rfl rfl sz_27 ?_
  refine AN ?_
  try refine A2 ?_
  refine AI ?_
  refine E7 ?_
  refine AV (AB (ds:=[_,_,_,_,_,_,_]) 7 rfl (kn rfl) rfl rfl agg_27 sz_27 rfl) ?_
  refine E1 (zs:=[_]) rfl rfl rfl rfl hfc (hc (v.fields.length+k) x (P9 hx)) ⟨rfl,trivial⟩ trivial (kn rfl) ⟨(kn rfl),trivial⟩ rfl (YS.tidy) ?_
  rintro _ _ _ ⟨rfl,rfl,rfl⟩
  refine AN ?_
  try refine A2 ?_
  refine A0 (A3 rfl rfl rfl (A9 rfl (kn rfl) (kn rfl) (AM (by first | omega | (dsimp only;omega)))) (A8 rfl rfl rfl rfl rfl .nil)) ?_
  try refine A2 ?_
  refine AZ ⟨k+1,by omega⟩ (by dsimp only;omega) (fun K=>AP ⟨s_t,s_t,s_t,s_t,s_t,trivial⟩ ⟨s_b,s_b,trivial⟩ trivial)
 obtain rfl:k=v.list.length:=by have:=of_decide_eq_false h;omega
 try refine A2 ?_
 refine A0 (A3 rfl rfl rfl (A4 rfl (kn rfl) off_27_6) (A3 rfl rfl rfl (A6 rfl (kn rfl) rfl rfl one_25) (A3 rfl rfl rfl (AS rfl (kn rfl) sle_25) (A8 rfl rfl rfl rfl rfl .nil)))) ?_
 try refine A2 ?_
 refine BC (ι:={ k:Nat // k<=(v.pairs).length })
  (fun k=>[(1,.clo (.func f) [] [.box 3 0]),(2,.box 2 0),(34,.part (.one (.row 14 (v.pairs).length ((v.pairs).flatMap pairDats)))),(35,.is (.int .i64 ((v.pairs).length:Int))),(36,.is (.int .i64 (k.1:Int)))])
  (fun k=>[(3,⟨3,[.is (.int .i64 (st (v.fields.length+v.list.length+2*k.1)))]⟩),(2,⟨27,bcs (vd v)⟩)]) (fun _=>[]) (fun k=>(v.pairs).length-k.1) ⟨0,by omega⟩
  (fun K=>AP ⟨s_t,s_t,s_t,s_t,s_t,trivial⟩ ⟨s_b,s_b,trivial⟩ trivial) ?_
 rintro⟨k,hk⟩
 dsimp only at hk ⊢
 try refine A2 ?_
 refine A0 (A3 rfl rfl rfl (A9 rfl (kn rfl) (kn rfl) BE) .nil) ?_
 try refine A2 ?_
 refine AE rfl (fun h=>?_) (fun h=>?_)
 ·have hlt:k<v.pairs.length:=by have:=of_decide_eq_true h;omega
  obtain⟨x,hx⟩:∃ x,v.pairs[k]?=some x:=⟨_,List.getElem?_eq_getElem hlt⟩
  try refine A2 ?_
  refine AI ?_
  refine AV (AO rfl (kn rfl) (kn rfl) (by omega) hx BG sle_25 esz_25 (BR x)) ?_
  refine AV (AR rfl (kn rfl) agg_55 sz_55) ?_
  refine B6 9 [.is (.int .i64 0),.is (.int .u64 0),.is (.string ⟨#[]⟩),.is (.slice none 0 0),.is (.string ⟨#[]⟩),.is (.slice none 0 0),.is (.slice none 0 0),.is (.int .i64 0),.is (.int .u64 0),.is (.string ⟨#[]⟩),.is (.slice none 0 0),.is (.string ⟨#[]⟩),.is (.slice none 0 0),.is (.slice none 0 0)] rfl rfl rfl rfl zr_55 (fun w D M V=>⟨rfl,fun j x v h1 h2=>B7 _ h1 h2 rfl⟩) rfl rfl rfl rfl ?_
  refine B4 rfl rfl rfl (kn rfl) rfl (kn rfl) rfl rfl sz_55 ?_
  refine AN ?_
  try refine A2 ?_
  refine AI ?_
  refine E7 ?_
  refine AV (A4 rfl (kn rfl) off_55_0) ?_
  refine AV (AB (ds:=[_,_,_,_,_,_,_]) 7 rfl (kn rfl) rfl rfl agg_27 sz_27 rfl) ?_
  refine E1 (zs:=[_]) rfl rfl rfl rfl hfc (hc _ x.1 (M7 hx).1) ⟨rfl,trivial⟩ trivial (kn rfl) ⟨(kn rfl),trivial⟩ rfl (YS.tidy) ?_
  rintro _ _ _ ⟨rfl,rfl,rfl⟩
  refine AN ?_
  try refine A2 ?_
  refine AI ?_
  refine E7 ?_
  refine AV (A4 rfl (kn rfl) off_55_1) ?_
  refine AV (AB (ds:=[_,_,_,_,_,_,_]) 7 rfl (kn rfl) rfl rfl agg_27 sz_27 rfl) ?_
  refine E1 (zs:=[_]) rfl rfl rfl rfl hfc (hc _ x.2 (M7 hx).2) ⟨rfl,trivial⟩ trivial (kn rfl) ⟨(kn rfl),trivial⟩ rfl (YS.tidy) ?_
  rintro _ _ _ ⟨rfl,rfl,rfl⟩
  refine AN ?_
  try refine A2 ?_
  refine A0 (A3 rfl rfl rfl (A9 rfl (kn rfl) (kn rfl) (AM (by first | omega | (dsimp only;omega)))) (A8 rfl rfl rfl rfl rfl .nil)) ?_
  try refine A2 ?_
  refine AZ ⟨k+1,by omega⟩ (by dsimp only;omega) (fun K=>AP ⟨s_t,s_t,s_t,s_t,s_t,trivial⟩ ⟨s_b,s_b,trivial⟩ trivial)
 obtain rfl:k=v.pairs.length:=by have:=of_decide_eq_false h;omega
 try refine A2 ?_
 rw[<- MW]
 exact OE (sB (st (gkids v).length)) [] rfl .nil (Imp.refl _) ⟨s_b,trivial⟩ trivial ⟨rfl,rfl,rfl⟩
theorem NA{P:Vl->Prop}(h:∀ v:Vl,(∀ x∈gkids v,P x)->P v)(v:Vl):P v:=by
 refine Vl.parts (fun v hf hl hp=>h v fun x hx=>?_) v
 simp only[DI,List.mem_append,List.mem_map]at hx
 rcases hx with⟨f,h1,rfl⟩ | h1 | h1
 ·exact hf f h1
 ·exact hl x h1
 ·unfold BQ at h1
  obtain⟨p,h2,h3⟩:=List.mem_flatMap.1 h1
  simp only[List.mem_cons,List.not_mem_nil,or_false]at h3
  rcases h3 with rfl | rfl
  ·exact(hp p h2).1
  ·exact(hp p h2).2
theorem ND{v:Vl}(h:AU v){x:Vl}(hx:x∈gkids v):AU x:=by
 have h0:vnodes v<=1000000:=h
 have h1:=HQ hx
 have h2:=LG v
 show vnodes x<=1000000
 omega
theorem ME(v:Vl):vsize v=if v.kind=0 then 0 else 1+lsize (gkids v):=by
 rw[DI,CR,CR,FE,G8,KE]
 split<;>omega
def II(v:Vl):Prop:=EF Try.prog [] 74 [.many (vd v)] (.part (iP (vsize v)))
theorem OB(n m:Int)(x:Vl)(hx:II x)(hm:n+vsize x=m)(h0:0<=n)(h1:m<=100000000):EG Try.prog [] 77 [.part (.many (vd x)),.box 3 0] (sB n) [] (YS m):=by
 subst hm
 refine FQ 7 Try.func77 rfl rfl rfl fun w D bor mb=>?_
 try refine A2 ?_
 refine AI ?_
 refine BB 2 rfl rfl rfl rfl (kn rfl) rfl rfl rfl rfl ?_
 refine AN ?_
 try refine A2 ?_
 refine L6 4 C0 (by kernel_rfl) (A3 rfl rfl rfl (A6 rfl (kn rfl) rfl rfl one_3) (A3 rfl rfl rfl (AB (ds:=[_,_,_,_,_,_,_]) 7 rfl (kn rfl) rfl rfl agg_27 sz_27 rfl) (A3 rfl rfl rfl (AG rfl (by kernel_rfl) (hx) ⟨(kn rfl),trivial⟩) (A3 rfl rfl rfl (A9 rfl (kn rfl) (kn rfl) (AM (by first | omega | (dsimp only;omega)))) .nil)))) ?_
 refine BF rfl rfl rfl (kn rfl) rfl (kn rfl) rfl rfl sz_3 rfl ?_
 refine AN ?_
 try refine A2 ?_
 exact OE (sB (n+vsize x)) [] rfl .nil (Imp.refl _) ⟨s_b,trivial⟩ trivial ⟨rfl,rfl,rfl⟩
theorem LA(v:Vl)(hs:AU v)(ih:∀ x∈gkids v,II x):II v:=by
 have hn:=LG v
 have hs0:vnodes v<=1000000:=hs
 have hE:=P5 77 (by kernel_rfl) v hs (fun k=>1+(lsize ((gkids v).take k):Int)) fun k x hx=>by
  have htk:=LF hx
  have hle:=KX ((gkids v).take (k+1))
  have hle2:=KI (gkids v) (k+1)
  refine OB _ _ x (ih x (List.mem_of_getElem? hx)) ?_ (by omega) (by omega)
  rw[htk]
  omega
 rw[List.take_zero,List.take_length]at hE
 unfold II
 refine AF 11 Try.func74 rfl rfl rfl fun w D=>?_
 try refine A2 ?_
 refine AI ?_
 refine BB 1 rfl rfl rfl rfl (kn rfl) rfl rfl rfl rfl ?_
 refine CM ?_
 refine AN ?_
 try refine A2 ?_
 refine A0 (A3 rfl rfl rfl (A4 rfl (kn rfl) off_27_0) (A3 rfl rfl rfl (A6 rfl (kn rfl) rfl rfl one_3) (A3 rfl rfl rfl (A9 rfl (kn rfl) (kn rfl) AK) .nil))) ?_
 try refine A2 ?_
 refine AE rfl (fun h=>?_) (fun h=>?_)
 ·have e:vsize v=0:=by rw[ME];exact if_pos (of_decide_eq_true h)
  try refine A2 ?_
  refine A0 (AD rfl rfl rfl rfl rfl .nil) ?_
  try refine A2 ?_
  exact A7 rfl rfl (.tmp (kn rfl) (.nil)) (Imp.of_eq (by rw[e];rfl)) rfl
 have e:vsize v=1+lsize (gkids v):=by rw[ME];exact if_neg (of_decide_eq_false h)
 try refine A2 ?_
 refine AI ?_
 refine B6 3 [.is (.int .i64 0)] rfl rfl rfl rfl zr_3 (fun w D M V=>⟨rfl,fun j x v h1 h2=>B7 _ h1 h2 rfl⟩) rfl rfl rfl rfl ?_
 refine BF rfl rfl rfl (kn rfl) rfl (kn rfl) rfl rfl sz_3 rfl ?_
 refine AN ?_
 try refine A2 ?_
 refine AI ?_
 refine AV (AB (ds:=[_,_,_,_,_,_,_]) 7 rfl (kn rfl) rfl rfl agg_27 sz_27 rfl) ?_
 refine AV (NY (fs:=[]) (cs:=[.box 3 0]) rfl trivial ⟨(kn rfl),trivial⟩) ?_
 refine M9 rfl rfl rfl rfl (by kernel_rfl) (hE) ⟨rfl,trivial⟩ trivial ⟨(kn rfl),⟨(kn rfl),trivial⟩⟩ (YS.tidy) ?_
 rintro _ _ _ ⟨rfl,rfl,rfl⟩
 refine AN ?_
 try refine A2 ?_
 refine A0 (A3 rfl rfl rfl (A6 rfl (kn rfl) rfl rfl one_3) (AD rfl rfl rfl rfl rfl .nil)) ?_
 try refine A2 ?_
 exact A7 rfl rfl (.tmp (kn rfl) (.nil)) (Imp.of_eq (by rw[e];simp;rfl)) rfl
theorem F9(v:Vl)(hs:AU v):II v:=by
 revert hs
 exact NA (P:=fun v=>AU v->II v) (fun v ih hs=>LA v hs fun x hx=>ih x hx (ND hs hx)) v
end Go.Proofs.Ytojdpgeeajaojaa
