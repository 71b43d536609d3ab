/- Part 15. Conditions: as each theorem says. -/
import Derived.Test.YtecfdcdkkgmkpaaIS14
import Derived.Test.YtecfdcdkkgmkpaaProg
set_option maxRecDepth 100000
namespace Go.Proofs.Ytecfdcdkkgmkpaa
open Go.RowKit
def CR(v:Vl):Prop:=EF Try.prog [] 88 [.many (vd v)] (.part (tP (vright v)))
theorem QN(f:Int×Vl)(hr:CR f.2):EF Try.prog [] 103 [.many (fd f)] (.part (tP (fok f))):=by
 refine AF 17 Try.func103 rfl rfl rfl fun w D=>?_
 try refine A1 ?_
 refine AG ?_
 refine BV 1 rfl rfl rfl rfl (kn rfl) rfl rfl rfl rfl ?_
 refine BW ?_
 refine AD ?_
 try refine A1 ?_
 refine A0 (A4 rfl rfl rfl (A3 rfl (kn rfl) off_97_0) (A4 rfl rfl rfl (A5 rfl (kn rfl) rfl rfl one_3) (A4 rfl rfl rfl (AH rfl (by kernel_rfl) (J9 f.1) ⟨(kn rfl),trivial⟩) (A8 rfl rfl rfl rfl rfl (Walk.gd _ rfl rfl rfl (fun h=>A3 rfl (kn rfl) off_97_1) (Walk.gd _ rfl rfl rfl (fun h=>A3 rfl (A2 rfl h) off_27_0) (Walk.gd _ rfl rfl rfl (fun h=>A5 rfl (A2 rfl h) rfl rfl one_3) (Walk.gd _ rfl rfl rfl (fun h=>A6 rfl (A2 rfl h) (kn rfl) D8) (A4 rfl rfl rfl (AN rfl (kn rfl) (fun hb=>A2 rfl hb)) (A8 rfl rfl rfl rfl rfl (Walk.gd _ rfl rfl rfl (fun h=>A3 rfl (kn rfl) off_97_1) (Walk.gd _ rfl rfl rfl (fun h=>A9 (ds:=[_,_,_,_,_,_,_]) 7 rfl (A2 rfl h) rfl rfl agg_27 sz_27 rfl) (Walk.gd _ rfl rfl rfl (fun h=>AH rfl (by kernel_rfl) (hr) ⟨(A2 rfl h),trivial⟩) (A4 rfl rfl rfl (AN rfl (kn rfl) (fun hb=>A2 rfl hb)) (AC rfl rfl rfl rfl rfl .nil))))))))))))))) ?_
 try refine A1 ?_
 exact A7 rfl rfl (.tmp (kn rfl) (.nil)) (AT rfl) rfl
theorem L7(x:Vl)(hr:CR x):EF Try.prog [] 106 [.many (vd x)] (.part (tP (GJ x))):=by
 refine AF 15 Try.func106 rfl rfl rfl fun w D=>?_
 try refine A1 ?_
 refine AG ?_
 refine BV 1 rfl rfl rfl rfl (kn rfl) rfl rfl rfl rfl ?_
 refine BW ?_
 refine AD ?_
 try refine A1 ?_
 refine A0 (A4 rfl rfl rfl (A3 rfl (kn rfl) off_27_0) (A4 rfl rfl rfl (A5 rfl (kn rfl) rfl rfl one_3) (A4 rfl rfl rfl (A6 rfl (kn rfl) (kn rfl) CW) (A8 rfl rfl rfl rfl rfl (Walk.gd _ rfl rfl rfl (fun h=>A3 rfl (kn rfl) off_27_0) (Walk.gd _ rfl rfl rfl (fun h=>A5 rfl (A2 rfl h) rfl rfl one_3) (Walk.gd _ rfl rfl rfl (fun h=>A6 rfl (A2 rfl h) (kn rfl) NJ) (A4 rfl rfl rfl (AN rfl (kn rfl) (fun hb=>A2 rfl hb)) (A8 rfl rfl rfl rfl rfl (Walk.gd _ rfl rfl rfl (fun h=>A9 (ds:=[_,_,_,_,_,_,_]) 7 rfl (kn rfl) rfl rfl agg_27 sz_27 rfl) (Walk.gd _ rfl rfl rfl (fun h=>AH rfl (by kernel_rfl) (hr) ⟨(A2 rfl h),trivial⟩) (A4 rfl rfl rfl (AN rfl (kn rfl) (fun hb=>A2 rfl hb)) (AC rfl rfl rfl rfl rfl .nil))))))))))))) ?_
 try refine A1 ?_
 exact A7 rfl rfl (.tmp (kn rfl) (.nil)) (AT rfl) rfl
theorem MC(p:Vl×Vl)(h1:CR p.1)(h2:CR p.2):EF Try.prog [] 114 [.many (pd p)] (.part (tP (vright p.1&&GJ p.2))):=by
 refine AF 11 Try.func114 rfl rfl rfl fun w D=>?_
 try refine A1 ?_
 refine AG ?_
 refine BV 1 rfl rfl rfl rfl (kn rfl) rfl rfl rfl rfl ?_
 refine BW ?_
 refine AD ?_
 try refine A1 ?_
 refine A0 (A4 rfl rfl rfl (A3 rfl (kn rfl) off_101_0) (A4 rfl rfl rfl (A9 (ds:=[_,_,_,_,_,_,_]) 7 rfl (kn rfl) rfl rfl agg_27 sz_27 rfl) (A4 rfl rfl rfl (AH rfl (by kernel_rfl) (h1) ⟨(kn rfl),trivial⟩) (A8 rfl rfl rfl rfl rfl (Walk.gd _ rfl rfl rfl (fun h=>A3 rfl (kn rfl) off_101_1) (Walk.gd _ rfl rfl rfl (fun h=>A9 (ds:=[_,_,_,_,_,_,_]) 7 rfl (A2 rfl h) rfl rfl agg_27 sz_27 rfl) (Walk.gd _ rfl rfl rfl (fun h=>AH rfl (by kernel_rfl) (L7 p.2 h2) ⟨(A2 rfl h),trivial⟩) (A4 rfl rfl rfl (AN rfl (kn rfl) (fun hb=>A2 rfl hb)) (AC rfl rfl rfl rfl rfl .nil))))))))) ?_
 try refine A1 ?_
 exact A7 rfl rfl (.tmp (kn rfl) (.nil)) (AT rfl) rfl
theorem TE(z:Int)(p:Vl×Vl)(h1:CR p.1)(h2:CR p.2):EG Try.prog [] 113 [.part (.many (pd p)),.box 3 0] (kB z) [] (YB z (pok z p)):=by
 refine EE 13 Try.func113 rfl rfl rfl fun w D bor mb=>?_
 try refine A1 ?_
 refine AG ?_
 refine BV 2 rfl rfl rfl rfl (kn rfl) rfl rfl rfl rfl ?_
 refine BW ?_
 refine AD ?_
 try refine A1 ?_
 refine A0 (A4 rfl rfl rfl (A3 rfl (kn rfl) off_101_0) (A4 rfl rfl rfl (A3 rfl (kn rfl) off_27_0) (A4 rfl rfl rfl (A5 rfl (kn rfl) rfl rfl one_3) (A4 rfl rfl rfl (A5 rfl (kn rfl) rfl rfl one_3) (A4 rfl rfl rfl (A6 rfl (kn rfl) (kn rfl) AL) (A8 rfl rfl rfl rfl rfl (Walk.gd _ rfl rfl rfl (fun h=>A9 (ds:=[_,_,_,_,_,_,_,_,_,_,_,_,_,_]) 14 rfl (kn rfl) rfl rfl agg_101 sz_101 rfl) (Walk.gd _ rfl rfl rfl (fun h=>AH rfl (by kernel_rfl) (MC p h1 h2) ⟨(A2 rfl h),trivial⟩) (A4 rfl rfl rfl (AN rfl (kn rfl) (fun hb=>A2 rfl hb)) (AC rfl rfl rfl rfl rfl .nil)))))))))) ?_
 try refine A1 ?_
 exact HX (kB z) ([]) rfl (.tmp (kn rfl) (.nil)) (Imp.refl _) ⟨s_b,trivial⟩ trivial (⟨rfl,rfl,rfl⟩)
theorem KS(v:Vl)(hs:B6 v)(hv:v.pairs≠[])(hp:∀ p∈v.pairs,CR p.1/\CR p.2):EF Try.prog [] 107 [.many (vd v)] (.part (tP (DE v.pairs))):=by
 obtain⟨p0,hp0⟩:∃ p0,v.pairs[0]?=some p0:=⟨_,List.getElem?_eq_getElem (List.length_pos_iff.2 hv)⟩
 have e:DE v.pairs=((decide (p0.1.kind=1)||decide (p0.1.kind=2))&&(v.pairs.all (pok p0.1.kind)&&B9 LR v.pairs)):=by
  revert hp0
  cases v.pairs with
  | nil=>intro h;cases h
  | cons q ps=>
   intro h
   obtain rfl:q=p0:=by simpa using h
   rfl
 have hlen:=(G4 hs).2.2
 refine AF 25 Try.func107 rfl rfl rfl fun w D=>?_
 try refine A1 ?_
 refine AG ?_
 refine BV 1 rfl rfl rfl rfl (kn rfl) rfl rfl rfl rfl ?_
 refine BW ?_
 refine AD ?_
 try refine A1 ?_
 refine AG ?_
 refine AK (A3 rfl (kn rfl) off_27_6) ?_
 refine AK (A5 rfl (kn rfl) rfl rfl one_25) ?_
 refine AK (AX rfl (kn rfl) (kn rfl) (by omega) hp0 BT sle_25 esz_25 (CK p0)) ?_
 refine AK (AA rfl (kn rfl) off_101_0) ?_
 refine AK (AA rfl (kn rfl) off_27_0) ?_
 refine AK (AI rfl (kn rfl) one_3) ?_
 refine BB 3 [.is (.int .i64 0)] rfl rfl rfl rfl zr_3 (fun w D M V=>⟨rfl,fun j x v h1 h2=>BA _ h1 h2 rfl⟩) rfl rfl rfl rfl ?_
 refine BU rfl rfl rfl (kn rfl) rfl (kn rfl) rfl rfl sz_3 rfl ?_
 refine AD ?_
 try refine A1 ?_
 refine A0 (A4 rfl rfl rfl (A5 rfl (kn rfl) rfl rfl one_3) (A4 rfl rfl rfl (A6 rfl (kn rfl) (kn rfl) D8) (A8 rfl rfl rfl rfl rfl (Walk.gd _ rfl rfl rfl (fun h=>A5 rfl (kn rfl) rfl rfl one_3) (Walk.gd _ rfl rfl rfl (fun h=>A6 rfl (A2 rfl h) (kn rfl) D8) (A4 rfl rfl rfl (AN rfl (kn rfl) (fun hb=>A2 rfl hb)) .nil)))))) ?_
 try refine A1 ?_
 refine AB rfl (fun h1=>?_) (fun h1=>?_)
 ·have e2:DE v.pairs=false:=by
   rw[e]
   have h2:¬ p0.1.kind=1/\¬ p0.1.kind=2:=by simpa using h1
   rw[decide_eq_false h2.1,decide_eq_false h2.2]
   rfl
  try refine A1 ?_
  refine A0 (AC rfl rfl rfl rfl rfl .nil) ?_
  try refine A1 ?_
  exact A7 rfl rfl (.tmp (kn rfl) (.nil)) (AT e2.symm) rfl
 have e2:DE v.pairs=(v.pairs.all (pok p0.1.kind)&&B9 LR v.pairs):=by
  have h2:p0.1.kind=1\/p0.1.kind=2:=by
   rcases Decidable.em (p0.1.kind=1)with h | h
   ·exact .inl h
   ·refine .inr ?_
    have h3:¬ p0.1.kind=1->p0.1.kind=2:=by simpa using h1
    exact h3 h
  rw[e]
  rcases h2 with h2 | h2<;>rw[h2]<;>rfl
 try refine A1 ?_
 refine AG ?_
 refine AK (A3 rfl (kn rfl) off_27_6) ?_
 refine AK (A5 rfl (kn rfl) rfl rfl one_25) ?_
 refine AK (UD (fs:=[]) (cs:=[.box 3 0]) rfl trivial ⟨(kn rfl),trivial⟩) ?_
 refine HT rfl rfl rfl rfl (by kernel_rfl) (M5 p0.1.kind v.pairs hlen (pok p0.1.kind) (fun x hx=>TE p0.1.kind x (hp x hx).1 (hp x hx).2)) ⟨rfl,trivial⟩ trivial ⟨(kn rfl),⟨(kn rfl),trivial⟩⟩ (YB.tidy) ?_
 rintro _ _ _ ⟨rfl,rfl,rfl⟩
 refine BE ?_
 refine G9 rfl rfl rfl (fun h=>A3 rfl (kn rfl) off_27_6) ?_
 refine G9 rfl rfl rfl (fun h=>A5 rfl (A2 rfl h) rfl rfl one_25) ?_
 refine G9 rfl rfl rfl (fun h=>AH rfl (by kernel_rfl) (JS 100 (by kernel_rfl) v.pairs hlen LR (fun x hx y hy=>N6 x y (FZ x.1 (CJ hs hx).1 y.1 (CJ hs hy).1))) ⟨(A2 rfl h),⟨(kn rfl),trivial⟩⟩) ?_
 refine AK (AN rfl (kn rfl) (fun hb=>A2 rfl hb)) ?_
 refine BW ?_
 refine AD ?_
 try refine A1 ?_
 exact A7 rfl rfl (.tmp (kn rfl) (.nil)) (AT e2.symm) rfl
set_option maxHeartbeats 1000000 in
theorem LX(v:Vl)(hs:B6 v)(hf:∀ f∈v.fields,CR f.2)(hl:∀ x∈v.list,CR x)(hp:∀ p∈v.pairs,CR p.1/\CR p.2):CR v:=by
 unfold CR
 rw[NO]
 obtain⟨a1,a2,a3⟩:=G4 hs
 refine AF 43 Try.func88 rfl rfl rfl fun w D=>?_
 try refine A1 ?_
 refine AG ?_
 refine BV 1 rfl rfl rfl rfl (kn rfl) rfl rfl rfl rfl ?_
 refine BW ?_
 refine AD ?_
 try refine A1 ?_
 refine A0 (A4 rfl rfl rfl (A9 (ds:=[_,_,_,_,_,_,_]) 7 rfl (kn rfl) rfl rfl agg_27 sz_27 rfl) (A4 rfl rfl rfl (AH rfl (by kernel_rfl) (TV v) ⟨(kn rfl),trivial⟩) (A4 rfl rfl rfl (DL rfl (kn rfl)) .nil))) ?_
 try refine A1 ?_
 refine AB rfl (fun h=>?_) (fun h=>?_)
 ·have e:GE v=false:=by
   unfold GE
   rw[show G0 v=false by simpa using h]
   rfl
  try refine A1 ?_
  refine A0 (AC rfl rfl rfl rfl rfl .nil) ?_
  try refine A1 ?_
  exact A7 rfl rfl (.tmp (kn rfl) (.nil)) (AT e.symm) rfl
 have e:GE v=(if v.kind=0\/v.kind=1\/v.kind=2 then true else if v.kind=3 then v.fields.all fok&&B9 IK v.fields else if v.kind=4 then decide (v.list≠[])&&v.list.all GJ else if v.kind=5 then DE v.pairs else false):=by
  unfold GE
  rw[show G0 v=true by simpa using h]
  exact Bool.true_and _
 clear h
 try refine A1 ?_
 refine A0 (A4 rfl rfl rfl (A3 rfl (kn rfl) off_27_0) (A4 rfl rfl rfl (A5 rfl (kn rfl) rfl rfl one_3) .nil)) ?_
 try refine A1 ?_
 try refine A1 ?_
 refine A0 (A4 rfl rfl rfl (A6 rfl (kn rfl) (kn rfl) AL) (AC rfl rfl rfl rfl rfl .nil)) ?_
 try refine A1 ?_
 refine AB rfl (fun q0=>?_) (fun q0=>?_)
 ·try refine A1 ?_
  refine AB rfl (fun _=>?_) (fun h=>absurd (h.symm.trans q0) (by decide))
  try refine A1 ?_
  refine A0 (AC rfl rfl rfl rfl rfl .nil) ?_
  try refine A1 ?_
  exact A7 rfl rfl (.tmp (kn rfl) (.nil)) (AT (by rw[e];exact(if_pos (.inl (of_decide_eq_true q0))).symm)) rfl
 try refine A1 ?_
 refine A0 (A4 rfl rfl rfl (A6 rfl (kn rfl) (kn rfl) AL) (AC rfl rfl rfl rfl rfl .nil)) ?_
 try refine A1 ?_
 refine AB rfl (fun q1=>?_) (fun q1=>?_)
 ·try refine A1 ?_
  refine AB rfl (fun _=>?_) (fun h=>absurd (h.symm.trans q1) (by decide))
  try refine A1 ?_
  refine A0 (AC rfl rfl rfl rfl rfl .nil) ?_
  try refine A1 ?_
  exact A7 rfl rfl (.tmp (kn rfl) (.nil)) (AT (by rw[e];exact(if_pos (.inr (.inl (of_decide_eq_true q1)))).symm)) rfl
 try refine A1 ?_
 refine A0 (A4 rfl rfl rfl (A6 rfl (kn rfl) (kn rfl) AL) (AC rfl rfl rfl rfl rfl .nil)) ?_
 try refine A1 ?_
 try refine A1 ?_
 refine AB rfl (fun q2=>?_) (fun q2=>?_)
 ·try refine A1 ?_
  refine A0 (AC rfl rfl rfl rfl rfl .nil) ?_
  try refine A1 ?_
  exact A7 rfl rfl (.tmp (kn rfl) (.nil)) (AT (by rw[e];exact(if_pos (.inr (.inr (of_decide_eq_true q2)))).symm)) rfl
 have n0:=of_decide_eq_false q0
 have n1:=of_decide_eq_false q1
 have n2:=of_decide_eq_false q2
 rw[if_neg (by omega)]at e
 try refine A1 ?_
 refine A0 (A4 rfl rfl rfl (A6 rfl (kn rfl) (kn rfl) AL) (AC rfl rfl rfl rfl rfl .nil)) ?_
 try refine A1 ?_
 refine AB rfl (fun q3=>?_) (fun q3=>?_)
 ·rw[if_pos (of_decide_eq_true q3)]at e
  try refine A1 ?_
  refine A0 (A4 rfl rfl rfl (A3 rfl (kn rfl) off_27_3) (A4 rfl rfl rfl (A5 rfl (kn rfl) rfl rfl one_23) (A4 rfl rfl rfl (AH rfl (by kernel_rfl) (KV 103 (by kernel_rfl) v.fields a1 fok (fun x hx=>QN x (hf x hx))) ⟨(kn rfl),⟨(kn rfl),trivial⟩⟩) (A8 rfl rfl rfl rfl rfl (Walk.gd _ rfl rfl rfl (fun h=>A3 rfl (kn rfl) off_27_3) (Walk.gd _ rfl rfl rfl (fun h=>A5 rfl (A2 rfl h) rfl rfl one_23) (Walk.gd _ rfl rfl rfl (fun h=>AH rfl (by kernel_rfl) (J0 99 (by kernel_rfl) v.fields a1 IK (fun x _ y _=>IT x y)) ⟨(A2 rfl h),⟨(kn rfl),trivial⟩⟩) (A4 rfl rfl rfl (AN rfl (kn rfl) (fun hb=>A2 rfl hb)) (AC rfl rfl rfl rfl rfl .nil))))))))) ?_
  try refine A1 ?_
  exact A7 rfl rfl (.tmp (kn rfl) (.nil)) (AT e.symm) rfl
 rw[if_neg (of_decide_eq_false q3)]at e
 try refine A1 ?_
 refine A0 (A4 rfl rfl rfl (A6 rfl (kn rfl) (kn rfl) AL) (AC rfl rfl rfl rfl rfl .nil)) ?_
 try refine A1 ?_
 refine AB rfl (fun q4=>?_) (fun q4=>?_)
 ·rw[if_pos (of_decide_eq_true q4)]at e
  try refine A1 ?_
  refine A0 (A4 rfl rfl rfl (A3 rfl (kn rfl) off_27_5) (A4 rfl rfl rfl (A5 rfl (kn rfl) rfl rfl one_24) (A4 rfl rfl rfl (AY rfl (kn rfl) sle_24) (A4 rfl rfl rfl (A6 rfl (kn rfl) (kn rfl) D9) (A8 rfl rfl rfl rfl rfl (Walk.gd _ rfl rfl rfl (fun h=>A3 rfl (kn rfl) off_27_5) (Walk.gd _ rfl rfl rfl (fun h=>A5 rfl (A2 rfl h) rfl rfl one_24) (Walk.gd _ rfl rfl rfl (fun h=>AH rfl (by kernel_rfl) (OM 106 (by kernel_rfl) v.list a2 GJ (fun x hx=>L7 x (hl x hx))) ⟨(A2 rfl h),⟨(kn rfl),trivial⟩⟩) (A4 rfl rfl rfl (AN rfl (kn rfl) (fun hb=>A2 rfl hb)) (AC rfl rfl rfl rfl rfl .nil)))))))))) ?_
  try refine A1 ?_
  exact A7 rfl rfl (.tmp (kn rfl) (.nil)) (AT (by rw[e];simp[Nat.pos_iff_ne_zero])) rfl
 rw[if_neg (of_decide_eq_false q4)]at e
 try refine A1 ?_
 refine A0 (A4 rfl rfl rfl (A6 rfl (kn rfl) (kn rfl) AL) (AC rfl rfl rfl rfl rfl .nil)) ?_
 try refine A1 ?_
 refine AB rfl (fun q5=>?_) (fun q5=>?_)
 ·rw[if_pos (of_decide_eq_true q5)]at e
  try refine A1 ?_
  refine A0 (A4 rfl rfl rfl (A3 rfl (kn rfl) off_27_6) (A4 rfl rfl rfl (A5 rfl (kn rfl) rfl rfl one_25) (A4 rfl rfl rfl (AY rfl (kn rfl) sle_25) (A4 rfl rfl rfl (A6 rfl (kn rfl) (kn rfl) D9) (A8 rfl rfl rfl rfl rfl (Walk.gd _ rfl rfl rfl (fun h=>A9 (ds:=[_,_,_,_,_,_,_]) 7 rfl (kn rfl) rfl rfl agg_27 sz_27 rfl) (Walk.gd _ rfl rfl rfl (fun h=>AH rfl (by kernel_rfl) (KS v hs (List.length_pos_iff.1 (by have:=of_decide_eq_true h;omega)) hp) ⟨(A2 rfl h),trivial⟩) (A4 rfl rfl rfl (AN rfl (kn rfl) (fun hb=>A2 rfl hb)) (AC rfl rfl rfl rfl rfl .nil))))))))) ?_
  try refine A1 ?_
  exact A7 rfl rfl (.tmp (kn rfl) (.nil)) (AT (by rw[e];cases hv:v.pairs<;>simp[DE])) rfl
 rw[if_neg (of_decide_eq_false q5)]at e
 try refine A1 ?_
 refine A0 (AC rfl rfl rfl rfl rfl .nil) ?_
 try refine A1 ?_
 exact A7 rfl rfl (.tmp (kn rfl) (.nil)) (AT e.symm) rfl
theorem EW(v:Vl)(hv:B6 v):CR v:=by
 revert hv
 exact Vl.parts (P:=fun a=>B6 a->CR a) (fun v hf hl hp ha=>LX v ha (fun f h=>hf f h (FR ha h)) (fun x h=>hl x h (GY ha h)) (fun p h=>⟨(hp p h).1 (CJ ha h).1,(hp p h).2 (CJ ha h).2⟩)) v
abbrev sB(z:Int):BL:=[(3,⟨3,[.is (.int .i64 z)]⟩)]
abbrev YS(z:Int)(y:IV)(B1:BL)(R1:RL):Prop:=y=.tup []/\B1=sB z/\R1=[]
theorem YS.tidy{z z':Int}(y:IV)(B1:BL)(R1:RL)(h:YS z' y B1 R1):PV (sB z) [] y B1 R1:=by
 obtain⟨rfl,rfl,rfl⟩:=h
 exact⟨rfl,rfl,rfl,rfl⟩
abbrev pP(ds:List Dat):Part:=.one (.pref ds)
theorem JU(v:Vl)(hv:B6 v):EF Try.prog [] 87 [.many (vd v)] (.part (tP (DG v))):=by
 refine AF 10 Try.func87 rfl rfl rfl fun w D=>?_
 try refine A1 ?_
 refine AG ?_
 refine BV 1 rfl rfl rfl rfl (kn rfl) rfl rfl rfl rfl ?_
 refine BW ?_
 refine AD ?_
 try refine A1 ?_
 refine A0 (A4 rfl rfl rfl (A3 rfl (kn rfl) off_27_0) (A4 rfl rfl rfl (A5 rfl (kn rfl) rfl rfl one_3) (A4 rfl rfl rfl (A6 rfl (kn rfl) (kn rfl) AL) (A8 rfl rfl rfl rfl rfl (Walk.gd _ rfl rfl rfl (fun h=>A9 (ds:=[_,_,_,_,_,_,_]) 7 rfl (kn rfl) rfl rfl agg_27 sz_27 rfl) (Walk.gd _ rfl rfl rfl (fun h=>AH rfl (by kernel_rfl) (EW v hv) ⟨(A2 rfl h),trivial⟩) (A4 rfl rfl rfl (AN rfl (kn rfl) (fun hb=>A2 rfl hb)) (AC rfl rfl rfl rfl rfl .nil)))))))) ?_
 try refine A1 ?_
 exact A7 rfl rfl (.tmp (kn rfl) (.nil)) (Imp.of_eq rfl) rfl
theorem QY(f g:FuncId)(hfc:AZ Try.prog f=true)(hgc:AZ Try.prog g=true)(l:List (Int×Ed))(hl:l.length<=80)(ok:Int×Ed->Bool)(ah:Int×Ed->Int×Ed->Bool)(h1:∀ x∈l,EF Try.prog [] f [pP (efd x)] (.part (tP (ok x))))(h2:∀ x∈l,∀ y∈l,EF Try.prog [] g [pP (efd x),pP (efd y)] (.part (tP (ah x y)))):
  EF Try.prog [] 37 [.one (.row 22 l.length (l.flatMap DM)),fP f,fP g] (.part (tP (B7 ok ah none l))):=by
 refine AF 36 Try.func37 rfl rfl rfl fun w D=>?_
 try refine A1 ?_
 refine A0 (AC rfl rfl rfl rfl rfl .nil) ?_
 try refine A1 ?_
 refine A0 (A8 rfl rfl rfl rfl rfl (A4 rfl rfl rfl (AY rfl (kn rfl) sle_28) (A8 rfl rfl rfl rfl rfl .nil))) ?_
 try refine A1 ?_
 refine BN (ι:={ k:Nat // k<=l.length/\B7 ok ah none l=B7 ok ah (D4 l k) (l.drop k) })
  (fun k=>[(0,.part (.one (.row 22 l.length (l.flatMap DM)))),(1,.part (fP f)),(2,.part (fP g)),(9,.is (.int .i64 (l.length:Int))),(10,.is (.int .i64 (k.1:Int)))])
  (fun _=>[]) (fun _=>[]) (fun k=>l.length-k.1) ⟨0,by omega,rfl⟩
  (fun K=>AM ⟨s_t,s_t,s_t,s_t,s_t,trivial⟩ trivial trivial) ?_
 rintro⟨k,hk,hw⟩
 dsimp only at hk hw ⊢
 try refine A1 ?_
 refine A0 (A4 rfl rfl rfl (A6 rfl (kn rfl) (kn rfl) BM) .nil) ?_
 try refine A1 ?_
 refine AB rfl (fun h=>?_) (fun h=>?_)
 ·have hlt:k<l.length:=by have:=of_decide_eq_true h;omega
  obtain⟨x,hx⟩:∃ x,l[k]?=some x:=⟨_,List.getElem?_eq_getElem hlt⟩
  obtain⟨p,hp⟩:=M2 hlt
  have mx:=List.mem_of_getElem? hx
  have mp:=List.mem_of_getElem? hp
  have hpo:=KM hp
  try refine A1 ?_
  refine A0 (A8 rfl rfl rfl rfl rfl (AC rfl rfl rfl rfl rfl .nil)) ?_
  try refine A1 ?_
  refine DV DX (by kernel_rfl) (A8 rfl rfl rfl rfl rfl (A8 rfl rfl rfl rfl rfl (A8 rfl rfl rfl rfl rfl (A4 rfl rfl rfl (AX rfl (kn rfl) (kn rfl) (by omega) hx E4 sle_28 esz_28 (DH x)) (A4 rfl rfl rfl (CH rfl hfc (kn rfl) (h1 x mx) ⟨C5 (kn rfl) (Imp.ref_pref _),trivial⟩) (A4 rfl rfl rfl (DL rfl (kn rfl)) (A8 rfl rfl rfl rfl rfl (Walk.gd _ rfl rfl rfl (fun h=>AS rfl (kn rfl)) (Walk.gd _ rfl rfl rfl (fun h=>A6 rfl (A2 rfl h) (kn rfl) D9) (Walk.gd _ rfl rfl rfl (fun h=>AS rfl (A2 rfl h)) (Walk.gd _ rfl rfl rfl (fun h=>AS rfl (kn rfl)) (Walk.gd _ rfl rfl rfl (fun h=>AS rfl (kn rfl)) (Walk.gd _ rfl rfl rfl (fun h=>AS rfl (kn rfl)) (Walk.gd _ rfl rfl rfl (fun h=>A6 rfl (A2 rfl h) (kn rfl) (E1 (by first | omega | (dsimp only;omega)))) (Walk.gd _ rfl rfl rfl (fun h=>AX rfl (A2 rfl h) (A2 rfl h) (UA h) hp E4 sle_28 esz_28 (DH p)) (Walk.gd _ rfl rfl rfl (fun h=>AS rfl (kn rfl)) (Walk.gd _ rfl rfl rfl (fun h=>AS rfl (kn rfl)) (Walk.gd _ rfl rfl rfl (fun h=>AX rfl (A2 rfl h) (A2 rfl h) (by omega) hx E4 sle_28 esz_28 (DH x)) (Walk.gd _ rfl rfl rfl (fun h=>CH rfl hgc (A2 rfl h) (h2 p mp x mx) ⟨C5 (A2 rfl h) (Imp.ref_pref _),C5 (A2 rfl h) (Imp.ref_pref _),trivial⟩) (Walk.gd _ rfl rfl rfl (fun h=>DL rfl (A2 rfl h)) (Walk.gd _ rfl rfl rfl (fun h=>AN rfl (A2 rfl h) (fun hb=>A2 rfl (gb h hb))) (A4 rfl rfl rfl (ES rfl (kn rfl) (fun hb=>A2 rfl hb)) .nil)))))))))))))))))))))) ?_
  try refine A1 ?_
  refine AB rfl (fun h3=>?_) (fun h3=>?_)
  ·have e:B7 ok ah none l=false:=by
    simp only[Bool.or_eq_true,Bool.and_eq_true,Bool.not_eq_true',decide_eq_true_eq]at h3
    rcases h3 with h3 | h3
    ·exact ET hx hw (.inl h3)
    ·exact ET hx hw (.inr ⟨p,by rw[hpo,if_neg (by omega)],h3.2⟩)
   try refine A1 ?_
   refine A0 (AC rfl rfl rfl rfl rfl .nil) ?_
   try refine A1 ?_
   exact A7 rfl rfl (.tmp (kn rfl) (.nil)) (AT e.symm) rfl
  simp only[Bool.or_eq_false_iff,Bool.and_eq_false_iff,Bool.not_eq_false',decide_eq_false_iff_not]at h3
  have hw2:=IH hx hw h3.1 (fun p' hp'=>by
   rw[hpo]at hp'
   split at hp'
   ·cases hp'
   ·cases hp'
    rcases h3.2 with h4 | h4
    ·omega
    ·exact h4)
  try refine A1 ?_
  refine A0 (A4 rfl rfl rfl (A6 rfl (kn rfl) (kn rfl) (AW (by first | omega | (dsimp only;omega)))) (A8 rfl rfl rfl rfl rfl .nil)) ?_
  try refine A1 ?_
  refine AV ⟨k+1,by omega,hw2⟩ (by dsimp only;omega) (fun K=>AM ⟨s_t,s_t,s_t,s_t,s_t,trivial⟩ trivial trivial)
 have e:B7 ok ah none l=true:=JP (by have:=of_decide_eq_false h;omega) hw
 try refine A1 ?_
 refine A0 (AC rfl rfl rfl rfl rfl .nil) ?_
 try refine A1 ?_
 exact A7 rfl rfl (.tmp (kn rfl) (.nil)) (AT e.symm) rfl
theorem R8(f g:FuncId)(hfc:AZ Try.prog f=true)(hgc:AZ Try.prog g=true)(l:List ((Int×Int×Vl)×Ed))(hl:l.length<=80)(ok:(Int×Int×Vl)×Ed->Bool)(ah:(Int×Int×Vl)×Ed->(Int×Int×Vl)×Ed->Bool)(h1:∀ x∈l,EF Try.prog [] f [pP (esd x)] (.part (tP (ok x))))(h2:∀ x∈l,∀ y∈l,EF Try.prog [] g [pP (esd x),pP (esd y)] (.part (tP (ah x y)))):
  EF Try.prog [] 42 [.one (.row 30 l.length (l.flatMap BC)),fP f,fP g] (.part (tP (B7 ok ah none l))):=by
 refine AF 36 Try.func42 rfl rfl rfl fun w D=>?_
 try refine A1 ?_
 refine A0 (AC rfl rfl rfl rfl rfl .nil) ?_
 try refine A1 ?_
 refine A0 (A8 rfl rfl rfl rfl rfl (A4 rfl rfl rfl (AY rfl (kn rfl) sle_29) (A8 rfl rfl rfl rfl rfl .nil))) ?_
 try refine A1 ?_
 refine BN (ι:={ k:Nat // k<=l.length/\B7 ok ah none l=B7 ok ah (D4 l k) (l.drop k) })
  (fun k=>[(0,.part (.one (.row 30 l.length (l.flatMap BC)))),(1,.part (fP f)),(2,.part (fP g)),(9,.is (.int .i64 (l.length:Int))),(10,.is (.int .i64 (k.1:Int)))])
  (fun _=>[]) (fun _=>[]) (fun k=>l.length-k.1) ⟨0,by omega,rfl⟩
  (fun K=>AM ⟨s_t,s_t,s_t,s_t,s_t,trivial⟩ trivial trivial) ?_
 rintro⟨k,hk,hw⟩
 dsimp only at hk hw ⊢
 try refine A1 ?_
 refine A0 (A4 rfl rfl rfl (A6 rfl (kn rfl) (kn rfl) BM) .nil) ?_
 try refine A1 ?_
 refine AB rfl (fun h=>?_) (fun h=>?_)
 ·have hlt:k<l.length:=by have:=of_decide_eq_true h;omega
  obtain⟨x,hx⟩:∃ x,l[k]?=some x:=⟨_,List.getElem?_eq_getElem hlt⟩
  obtain⟨p,hp⟩:=M2 hlt
  have mx:=List.mem_of_getElem? hx
  have mp:=List.mem_of_getElem? hp
  have hpo:=KM hp
  try refine A1 ?_
  refine A0 (A8 rfl rfl rfl rfl rfl (AC rfl rfl rfl rfl rfl .nil)) ?_
  try refine A1 ?_
  refine DV DX (by kernel_rfl) (A8 rfl rfl rfl rfl rfl (A8 rfl rfl rfl rfl rfl (A8 rfl rfl rfl rfl rfl (A4 rfl rfl rfl (AX rfl (kn rfl) (kn rfl) (by omega) hx CA sle_29 esz_29 (C0 x)) (A4 rfl rfl rfl (CH rfl hfc (kn rfl) (h1 x mx) ⟨C5 (kn rfl) (Imp.ref_pref _),trivial⟩) (A4 rfl rfl rfl (DL rfl (kn rfl)) (A8 rfl rfl rfl rfl rfl (Walk.gd _ rfl rfl rfl (fun h=>AS rfl (kn rfl)) (Walk.gd _ rfl rfl rfl (fun h=>A6 rfl (A2 rfl h) (kn rfl) D9) (Walk.gd _ rfl rfl rfl (fun h=>AS rfl (A2 rfl h)) (Walk.gd _ rfl rfl rfl (fun h=>AS rfl (kn rfl)) (Walk.gd _ rfl rfl rfl (fun h=>AS rfl (kn rfl)) (Walk.gd _ rfl rfl rfl (fun h=>AS rfl (kn rfl)) (Walk.gd _ rfl rfl rfl (fun h=>A6 rfl (A2 rfl h) (kn rfl) (E1 (by first | omega | (dsimp only;omega)))) (Walk.gd _ rfl rfl rfl (fun h=>AX rfl (A2 rfl h) (A2 rfl h) (UA h) hp CA sle_29 esz_29 (C0 p)) (Walk.gd _ rfl rfl rfl (fun h=>AS rfl (kn rfl)) (Walk.gd _ rfl rfl rfl (fun h=>AS rfl (kn rfl)) (Walk.gd _ rfl rfl rfl (fun h=>AX rfl (A2 rfl h) (A2 rfl h) (by omega) hx CA sle_29 esz_29 (C0 x)) (Walk.gd _ rfl rfl rfl (fun h=>CH rfl hgc (A2 rfl h) (h2 p mp x mx) ⟨C5 (A2 rfl h) (Imp.ref_pref _),C5 (A2 rfl h) (Imp.ref_pref _),trivial⟩) (Walk.gd _ rfl rfl rfl (fun h=>DL rfl (A2 rfl h)) (Walk.gd _ rfl rfl rfl (fun h=>AN rfl (A2 rfl h) (fun hb=>A2 rfl (gb h hb))) (A4 rfl rfl rfl (ES rfl (kn rfl) (fun hb=>A2 rfl hb)) .nil)))))))))))))))))))))) ?_
  try refine A1 ?_
  refine AB rfl (fun h3=>?_) (fun h3=>?_)
  ·have e:B7 ok ah none l=false:=by
    simp only[Bool.or_eq_true,Bool.and_eq_true,Bool.not_eq_true',decide_eq_true_eq]at h3
    rcases h3 with h3 | h3
    ·exact ET hx hw (.inl h3)
    ·exact ET hx hw (.inr ⟨p,by rw[hpo,if_neg (by omega)],h3.2⟩)
   try refine A1 ?_
   refine A0 (AC rfl rfl rfl rfl rfl .nil) ?_
   try refine A1 ?_
   exact A7 rfl rfl (.tmp (kn rfl) (.nil)) (AT e.symm) rfl
  simp only[Bool.or_eq_false_iff,Bool.and_eq_false_iff,Bool.not_eq_false',decide_eq_false_iff_not]at h3
  have hw2:=IH hx hw h3.1 (fun p' hp'=>by
   rw[hpo]at hp'
   split at hp'
   ·cases hp'
   ·cases hp'
    rcases h3.2 with h4 | h4
    ·omega
    ·exact h4)
  try refine A1 ?_
  refine A0 (A4 rfl rfl rfl (A6 rfl (kn rfl) (kn rfl) (AW (by first | omega | (dsimp only;omega)))) (A8 rfl rfl rfl rfl rfl .nil)) ?_
  try refine A1 ?_
  refine AV ⟨k+1,by omega,hw2⟩ (by dsimp only;omega) (fun K=>AM ⟨s_t,s_t,s_t,s_t,s_t,trivial⟩ trivial trivial)
 have e:B7 ok ah none l=true:=JP (by have:=of_decide_eq_false h;omega) hw
 try refine A1 ?_
 refine A0 (AC rfl rfl rfl rfl rfl .nil) ?_
 try refine A1 ?_
 exact A7 rfl rfl (.tmp (kn rfl) (.nil)) (AT e.symm) rfl
theorem QQ(f g:FuncId)(hfc:AZ Try.prog f=true)(hgc:AZ Try.prog g=true)(l:List (Vl×Ed))(hl:l.length<=80)(ok:Vl×Ed->Bool)(ah:Vl×Ed->Vl×Ed->Bool)(h1:∀ x∈l,EF Try.prog [] f [pP (ekd x)] (.part (tP (ok x))))(h2:∀ x∈l,∀ y∈l,EF Try.prog [] g [pP (ekd x),pP (ekd y)] (.part (tP (ah x y)))):
  EF Try.prog [] 45 [.one (.row 28 l.length (l.flatMap DR)),fP f,fP g] (.part (tP (B7 ok ah none l))):=by
 refine AF 36 Try.func45 rfl rfl rfl fun w D=>?_
 try refine A1 ?_
 refine A0 (AC rfl rfl rfl rfl rfl .nil) ?_
 try refine A1 ?_
 refine A0 (A8 rfl rfl rfl rfl rfl (A4 rfl rfl rfl (AY rfl (kn rfl) sle_30) (A8 rfl rfl rfl rfl rfl .nil))) ?_
 try refine A1 ?_
 refine BN (ι:={ k:Nat // k<=l.length/\B7 ok ah none l=B7 ok ah (D4 l k) (l.drop k) })
  (fun k=>[(0,.part (.one (.row 28 l.length (l.flatMap DR)))),(1,.part (fP f)),(2,.part (fP g)),(9,.is (.int .i64 (l.length:Int))),(10,.is (.int .i64 (k.1:Int)))])
  (fun _=>[]) (fun _=>[]) (fun k=>l.length-k.1) ⟨0,by omega,rfl⟩
  (fun K=>AM ⟨s_t,s_t,s_t,s_t,s_t,trivial⟩ trivial trivial) ?_
 rintro⟨k,hk,hw⟩
 dsimp only at hk hw ⊢
 try refine A1 ?_
 refine A0 (A4 rfl rfl rfl (A6 rfl (kn rfl) (kn rfl) BM) .nil) ?_
 try refine A1 ?_
 refine AB rfl (fun h=>?_) (fun h=>?_)
 ·have hlt:k<l.length:=by have:=of_decide_eq_true h;omega
  obtain⟨x,hx⟩:∃ x,l[k]?=some x:=⟨_,List.getElem?_eq_getElem hlt⟩
  obtain⟨p,hp⟩:=M2 hlt
  have mx:=List.mem_of_getElem? hx
  have mp:=List.mem_of_getElem? hp
  have hpo:=KM hp
  try refine A1 ?_
  refine A0 (A8 rfl rfl rfl rfl rfl (AC rfl rfl rfl rfl rfl .nil)) ?_
  try refine A1 ?_
  refine DV DX (by kernel_rfl) (A8 rfl rfl rfl rfl rfl (A8 rfl rfl rfl rfl rfl (A8 rfl rfl rfl rfl rfl (A4 rfl rfl rfl (AX rfl (kn rfl) (kn rfl) (by omega) hx E3 sle_30 esz_30 (DP x)) (A4 rfl rfl rfl (CH rfl hfc (kn rfl) (h1 x mx) ⟨C5 (kn rfl) (Imp.ref_pref _),trivial⟩) (A4 rfl rfl rfl (DL rfl (kn rfl)) (A8 rfl rfl rfl rfl rfl (Walk.gd _ rfl rfl rfl (fun h=>AS rfl (kn rfl)) (Walk.gd _ rfl rfl rfl (fun h=>A6 rfl (A2 rfl h) (kn rfl) D9) (Walk.gd _ rfl rfl rfl (fun h=>AS rfl (A2 rfl h)) (Walk.gd _ rfl rfl rfl (fun h=>AS rfl (kn rfl)) (Walk.gd _ rfl rfl rfl (fun h=>AS rfl (kn rfl)) (Walk.gd _ rfl rfl rfl (fun h=>AS rfl (kn rfl)) (Walk.gd _ rfl rfl rfl (fun h=>A6 rfl (A2 rfl h) (kn rfl) (E1 (by first | omega | (dsimp only;omega)))) (Walk.gd _ rfl rfl rfl (fun h=>AX rfl (A2 rfl h) (A2 rfl h) (UA h) hp E3 sle_30 esz_30 (DP p)) (Walk.gd _ rfl rfl rfl (fun h=>AS rfl (kn rfl)) (Walk.gd _ rfl rfl rfl (fun h=>AS rfl (kn rfl)) (Walk.gd _ rfl rfl rfl (fun h=>AX rfl (A2 rfl h) (A2 rfl h) (by omega) hx E3 sle_30 esz_30 (DP x)) (Walk.gd _ rfl rfl rfl (fun h=>CH rfl hgc (A2 rfl h) (h2 p mp x mx) ⟨C5 (A2 rfl h) (Imp.ref_pref _),C5 (A2 rfl h) (Imp.ref_pref _),trivial⟩) (Walk.gd _ rfl rfl rfl (fun h=>DL rfl (A2 rfl h)) (Walk.gd _ rfl rfl rfl (fun h=>AN rfl (A2 rfl h) (fun hb=>A2 rfl (gb h hb))) (A4 rfl rfl rfl (ES rfl (kn rfl) (fun hb=>A2 rfl hb)) .nil)))))))))))))))))))))) ?_
  try refine A1 ?_
  refine AB rfl (fun h3=>?_) (fun h3=>?_)
  ·have e:B7 ok ah none l=false:=by
    simp only[Bool.or_eq_true,Bool.and_eq_true,Bool.not_eq_true',decide_eq_true_eq]at h3
    rcases h3 with h3 | h3
    ·exact ET hx hw (.inl h3)
    ·exact ET hx hw (.inr ⟨p,by rw[hpo,if_neg (by omega)],h3.2⟩)
   try refine A1 ?_
   refine A0 (AC rfl rfl rfl rfl rfl .nil) ?_
   try refine A1 ?_
   exact A7 rfl rfl (.tmp (kn rfl) (.nil)) (AT e.symm) rfl
  simp only[Bool.or_eq_false_iff,Bool.and_eq_false_iff,Bool.not_eq_false',decide_eq_false_iff_not]at h3
  have hw2:=IH hx hw h3.1 (fun p' hp'=>by
   rw[hpo]at hp'
   split at hp'
   ·cases hp'
   ·cases hp'
    rcases h3.2 with h4 | h4
    ·omega
    ·exact h4)
  try refine A1 ?_
  refine A0 (A4 rfl rfl rfl (A6 rfl (kn rfl) (kn rfl) (AW (by first | omega | (dsimp only;omega)))) (A8 rfl rfl rfl rfl rfl .nil)) ?_
  try refine A1 ?_
  refine AV ⟨k+1,by omega,hw2⟩ (by dsimp only;omega) (fun K=>AM ⟨s_t,s_t,s_t,s_t,s_t,trivial⟩ trivial trivial)
 have e:B7 ok ah none l=true:=JP (by have:=of_decide_eq_false h;omega) hw
 try refine A1 ?_
 refine A0 (AC rfl rfl rfl rfl rfl .nil) ?_
 try refine A1 ?_
 exact A7 rfl rfl (.tmp (kn rfl) (.nil)) (AT e.symm) rfl
theorem TB{α:Type}{p:α->Bool}{l:List α}{k:Nat}(hk:l.length<=k)(h:l.any p=(l.drop k).any p):l.any p=false:=by
 rw[h,List.drop_eq_nil_of_le hk]
 rfl
theorem SB{α:Type}{p:α->Bool}{l:List α}{k:Nat}{x:α}(hx:l[k]?=some x)(h:l.any p=(l.drop k).any p):l.any p=(p x||(l.drop (k+1)).any p):=by
 rw[h,BQ hx,List.any_cons]
theorem U6(f:FuncId)(hfc:AZ Try.prog f=true)(l:List ((Int×Int×Vl)×Ed))(hl:l.length<=80)(p:(Int×Int×Vl)×Ed->Bool)(h1:∀ x∈l,EF Try.prog [] f [pP (esd x)] (.part (tP (p x)))):EF Try.prog [] 40 [.one (.row 30 l.length (l.flatMap BC)),fP f] (.part (tP (l.any p))):=by
 refine AF 17 Try.func40 rfl rfl rfl fun w D=>?_
 try refine A1 ?_
 refine A0 (AC rfl rfl rfl rfl rfl .nil) ?_
 try refine A1 ?_
 refine A0 (A8 rfl rfl rfl rfl rfl (A4 rfl rfl rfl (AY rfl (kn rfl) sle_29) (A8 rfl rfl rfl rfl rfl .nil))) ?_
 try refine A1 ?_
 refine BN (ι:={ k:Nat // k<=l.length/\l.any p=(l.drop k).any p })
  (fun k=>[(0,.part (.one (.row 30 l.length (l.flatMap BC)))),(1,.part (fP f)),(7,.is (.int .i64 (l.length:Int))),(8,.is (.int .i64 (k.1:Int)))])
  (fun _=>[]) (fun _=>[]) (fun k=>l.length-k.1) ⟨0,by omega,rfl⟩
  (fun K=>AM ⟨s_t,s_t,s_t,s_t,trivial⟩ trivial trivial) ?_
 rintro⟨k,hk,hw⟩
 dsimp only at hk hw ⊢
 try refine A1 ?_
 refine A0 (A4 rfl rfl rfl (A6 rfl (kn rfl) (kn rfl) BM) .nil) ?_
 try refine A1 ?_
 refine AB rfl (fun h=>?_) (fun h=>?_)
 ·have hlt:k<l.length:=by have:=of_decide_eq_true h;omega
  obtain⟨x,hx⟩:∃ x,l[k]?=some x:=⟨_,List.getElem?_eq_getElem hlt⟩
  have hs:=SB hx hw
  try refine A1 ?_
  refine A0 (A8 rfl rfl rfl rfl rfl (AC rfl rfl rfl rfl rfl .nil)) ?_
  try refine A1 ?_
  refine A0 (A8 rfl rfl rfl rfl rfl (A8 rfl rfl rfl rfl rfl (A8 rfl rfl rfl rfl rfl (A4 rfl rfl rfl (AX rfl (kn rfl) (kn rfl) (by omega) hx CA sle_29 esz_29 (C0 x)) (A4 rfl rfl rfl (CH rfl hfc (kn rfl) (h1 x (List.mem_of_getElem? hx)) ⟨C5 (kn rfl) (Imp.ref_pref _),trivial⟩) .nil))))) ?_
  try refine A1 ?_
  refine AB rfl (fun h3=>?_) (fun h3=>?_)
  ·have e:l.any p=true:=by rw[hs,h3];rfl
   try refine A1 ?_
   refine A0 (AC rfl rfl rfl rfl rfl .nil) ?_
   try refine A1 ?_
   exact A7 rfl rfl (.tmp (kn rfl) (.nil)) (AT e.symm) rfl
  rw[h3,Bool.false_or]at hs
  try refine A1 ?_
  refine A0 (A4 rfl rfl rfl (A6 rfl (kn rfl) (kn rfl) (AW (by first | omega | (dsimp only;omega)))) (A8 rfl rfl rfl rfl rfl .nil)) ?_
  try refine A1 ?_
  refine AV ⟨k+1,by omega,hs⟩ (by dsimp only;omega) (fun K=>AM ⟨s_t,s_t,s_t,s_t,trivial⟩ trivial trivial)
 have e:l.any p=false:=TB (by have:=of_decide_eq_false h;omega) hw
 try refine A1 ?_
 refine A0 (AC rfl rfl rfl rfl rfl .nil) ?_
 try refine A1 ?_
 exact A7 rfl rfl (.tmp (kn rfl) (.nil)) (AT e.symm) rfl
end Go.Proofs.Ytecfdcdkkgmkpaa
