/- Part 20. Conditions: as each theorem says. -/
import Derived.Test.YtecfdcdkkgmkpaaIO19
import Derived.Test.YtecfdcdkkgmkpaaProg
set_option maxRecDepth 100000
namespace Go.Proofs.Ytecfdcdkkgmkpaa
open Go.RowKit
def DH(v:Vl):Prop:=EF Try.prog [] 88 [.many (vd v)] (.part (tP (vright v)))
theorem SI(f:Int×Vl)(hr:DH f.2):EF Try.prog [] 103 [.many (fd f)] (.part (tP (fok f))):=by
 refine AH 17 Try.func103 rfl rfl rfl fun w D=>?_
 try refine A2 ?_
 refine AF ?_
 refine BX 1 rfl rfl rfl rfl (kn rfl) rfl rfl rfl rfl ?_
 refine BY ?_
 refine AD ?_
 try refine A2 ?_
 refine A1 (A4 rfl rfl rfl (A0 rfl (kn rfl) off_97_0) (A4 rfl rfl rfl (A5 rfl (kn rfl) rfl rfl one_3) (A4 rfl rfl rfl (AE rfl (by kernel_rfl) (LB f.1) ⟨(kn rfl),trivial⟩) (A9 rfl rfl rfl rfl rfl (Walk.gd _ rfl rfl rfl (fun h=>A0 rfl (kn rfl) off_97_1) (Walk.gd _ rfl rfl rfl (fun h=>A0 rfl (A3 rfl h) off_27_0) (Walk.gd _ rfl rfl rfl (fun h=>A5 rfl (A3 rfl h) rfl rfl one_3) (Walk.gd _ rfl rfl rfl (fun h=>A6 rfl (A3 rfl h) (kn rfl) CE) (A4 rfl rfl rfl (AQ rfl (kn rfl) (fun hb=>A3 rfl hb)) (A9 rfl rfl rfl rfl rfl (Walk.gd _ rfl rfl rfl (fun h=>A0 rfl (kn rfl) off_97_1) (Walk.gd _ rfl rfl rfl (fun h=>A7 (ds:=[_,_,_,_,_,_,_]) 7 rfl (A3 rfl h) rfl rfl agg_27 sz_27 rfl) (Walk.gd _ rfl rfl rfl (fun h=>AE rfl (by kernel_rfl) (hr) ⟨(A3 rfl h),trivial⟩) (A4 rfl rfl rfl (AQ rfl (kn rfl) (fun hb=>A3 rfl hb)) (AC rfl rfl rfl rfl rfl .nil))))))))))))))) ?_
 try refine A2 ?_
 exact A8 rfl rfl (.tmp (kn rfl) (.nil)) (B4 rfl) rfl
theorem MO(x:Vl)(hr:DH x):EF Try.prog [] 106 [.many (vd x)] (.part (tP (HJ x))):=by
 refine AH 15 Try.func106 rfl rfl rfl fun w D=>?_
 try refine A2 ?_
 refine AF ?_
 refine BX 1 rfl rfl rfl rfl (kn rfl) rfl rfl rfl rfl ?_
 refine BY ?_
 refine AD ?_
 try refine A2 ?_
 refine A1 (A4 rfl rfl rfl (A0 rfl (kn rfl) off_27_0) (A4 rfl rfl rfl (A5 rfl (kn rfl) rfl rfl one_3) (A4 rfl rfl rfl (A6 rfl (kn rfl) (kn rfl) DM) (A9 rfl rfl rfl rfl rfl (Walk.gd _ rfl rfl rfl (fun h=>A0 rfl (kn rfl) off_27_0) (Walk.gd _ rfl rfl rfl (fun h=>A5 rfl (A3 rfl h) rfl rfl one_3) (Walk.gd _ rfl rfl rfl (fun h=>A6 rfl (A3 rfl h) (kn rfl) PR) (A4 rfl rfl rfl (AQ rfl (kn rfl) (fun hb=>A3 rfl hb)) (A9 rfl rfl rfl rfl rfl (Walk.gd _ rfl rfl rfl (fun h=>A7 (ds:=[_,_,_,_,_,_,_]) 7 rfl (kn rfl) rfl rfl agg_27 sz_27 rfl) (Walk.gd _ rfl rfl rfl (fun h=>AE rfl (by kernel_rfl) (hr) ⟨(A3 rfl h),trivial⟩) (A4 rfl rfl rfl (AQ rfl (kn rfl) (fun hb=>A3 rfl hb)) (AC rfl rfl rfl rfl rfl .nil))))))))))))) ?_
 try refine A2 ?_
 exact A8 rfl rfl (.tmp (kn rfl) (.nil)) (B4 rfl) rfl
theorem OA(p:Vl×Vl)(h1:DH p.1)(h2:DH p.2):EF Try.prog [] 114 [.many (pd p)] (.part (tP (vright p.1&&HJ p.2))):=by
 refine AH 11 Try.func114 rfl rfl rfl fun w D=>?_
 try refine A2 ?_
 refine AF ?_
 refine BX 1 rfl rfl rfl rfl (kn rfl) rfl rfl rfl rfl ?_
 refine BY ?_
 refine AD ?_
 try refine A2 ?_
 refine A1 (A4 rfl rfl rfl (A0 rfl (kn rfl) off_101_0) (A4 rfl rfl rfl (A7 (ds:=[_,_,_,_,_,_,_]) 7 rfl (kn rfl) rfl rfl agg_27 sz_27 rfl) (A4 rfl rfl rfl (AE rfl (by kernel_rfl) (h1) ⟨(kn rfl),trivial⟩) (A9 rfl rfl rfl rfl rfl (Walk.gd _ rfl rfl rfl (fun h=>A0 rfl (kn rfl) off_101_1) (Walk.gd _ rfl rfl rfl (fun h=>A7 (ds:=[_,_,_,_,_,_,_]) 7 rfl (A3 rfl h) rfl rfl agg_27 sz_27 rfl) (Walk.gd _ rfl rfl rfl (fun h=>AE rfl (by kernel_rfl) (MO p.2 h2) ⟨(A3 rfl h),trivial⟩) (A4 rfl rfl rfl (AQ rfl (kn rfl) (fun hb=>A3 rfl hb)) (AC rfl rfl rfl rfl rfl .nil))))))))) ?_
 try refine A2 ?_
 exact A8 rfl rfl (.tmp (kn rfl) (.nil)) (B4 rfl) rfl
theorem V7(z:Int)(p:Vl×Vl)(h1:DH p.1)(h2:DH p.2):EG Try.prog [] 113 [.part (.many (pd p)),.box 3 0] (kB z) [] (YB z (pok z p)):=by
 refine ET 13 Try.func113 rfl rfl rfl fun w D bor mb=>?_
 try refine A2 ?_
 refine AF ?_
 refine BX 2 rfl rfl rfl rfl (kn rfl) rfl rfl rfl rfl ?_
 refine BY ?_
 refine AD ?_
 try refine A2 ?_
 refine A1 (A4 rfl rfl rfl (A0 rfl (kn rfl) off_101_0) (A4 rfl rfl rfl (A0 rfl (kn rfl) off_27_0) (A4 rfl rfl rfl (A5 rfl (kn rfl) rfl rfl one_3) (A4 rfl rfl rfl (A5 rfl (kn rfl) rfl rfl one_3) (A4 rfl rfl rfl (A6 rfl (kn rfl) (kn rfl) AO) (A9 rfl rfl rfl rfl rfl (Walk.gd _ rfl rfl rfl (fun h=>A7 (ds:=[_,_,_,_,_,_,_,_,_,_,_,_,_,_]) 14 rfl (kn rfl) rfl rfl agg_101 sz_101 rfl) (Walk.gd _ rfl rfl rfl (fun h=>AE rfl (by kernel_rfl) (OA p h1 h2) ⟨(A3 rfl h),trivial⟩) (A4 rfl rfl rfl (AQ rfl (kn rfl) (fun hb=>A3 rfl hb)) (AC rfl rfl rfl rfl rfl .nil)))))))))) ?_
 try refine A2 ?_
 exact JC (kB z) ([]) rfl (.tmp (kn rfl) (.nil)) (Imp.refl _) ⟨s_b,trivial⟩ trivial (⟨rfl,rfl,rfl⟩)
theorem M7(v:Vl)(hs:BH v)(hv:v.pairs≠[])(hp:∀ p∈v.pairs,DH p.1/\DH p.2):EF Try.prog [] 107 [.many (vd v)] (.part (tP (E3 v.pairs))):=by
 obtain⟨p0,hp0⟩:∃ p0,v.pairs[0]?=some p0:=⟨_,List.getElem?_eq_getElem (List.length_pos_iff.2 hv)⟩
 have e:E3 v.pairs=((decide (p0.1.kind=1)||decide (p0.1.kind=2))&&(v.pairs.all (pok p0.1.kind)&&BN ML v.pairs)):=by
  revert hp0
  cases v.pairs with
  | nil=>intro h;cases h
  | cons q ps=>
   intro h
   obtain rfl:q=p0:=by simpa using h
   rfl
 have hlen:=(H0 hs).2.2
 refine AH 25 Try.func107 rfl rfl rfl fun w D=>?_
 try refine A2 ?_
 refine AF ?_
 refine BX 1 rfl rfl rfl rfl (kn rfl) rfl rfl rfl rfl ?_
 refine BY ?_
 refine AD ?_
 try refine A2 ?_
 refine AF ?_
 refine AG (A0 rfl (kn rfl) off_27_6) ?_
 refine AG (A5 rfl (kn rfl) rfl rfl one_25) ?_
 refine AG (AL rfl (kn rfl) (kn rfl) (by omega) hp0 BO sle_25 esz_25 (BS p0)) ?_
 refine AG (AB rfl (kn rfl) off_101_0) ?_
 refine AG (AB rfl (kn rfl) off_27_0) ?_
 refine AG (AI rfl (kn rfl) one_3) ?_
 refine AV 3 [.is (.int .i64 0)] rfl rfl rfl rfl zr_3 (fun w D M V=>⟨rfl,fun j x v h1 h2=>AU _ h1 h2 rfl⟩) rfl rfl rfl rfl ?_
 refine C7 rfl rfl rfl (kn rfl) rfl (kn rfl) rfl rfl sz_3 rfl ?_
 refine AD ?_
 try refine A2 ?_
 refine A1 (A4 rfl rfl rfl (A5 rfl (kn rfl) rfl rfl one_3) (A4 rfl rfl rfl (A6 rfl (kn rfl) (kn rfl) CE) (A9 rfl rfl rfl rfl rfl (Walk.gd _ rfl rfl rfl (fun h=>A5 rfl (kn rfl) rfl rfl one_3) (Walk.gd _ rfl rfl rfl (fun h=>A6 rfl (A3 rfl h) (kn rfl) CE) (A4 rfl rfl rfl (AQ rfl (kn rfl) (fun hb=>A3 rfl hb)) .nil)))))) ?_
 try refine A2 ?_
 refine AA rfl (fun h1=>?_) (fun h1=>?_)
 ·have e2:E3 v.pairs=false:=by
   rw[e]
   have h2:¬ p0.1.kind=1/\¬ p0.1.kind=2:=by simpa using h1
   rw[decide_eq_false h2.1,decide_eq_false h2.2]
   rfl
  try refine A2 ?_
  refine A1 (AC rfl rfl rfl rfl rfl .nil) ?_
  try refine A2 ?_
  exact A8 rfl rfl (.tmp (kn rfl) (.nil)) (B4 e2.symm) rfl
 have e2:E3 v.pairs=(v.pairs.all (pok p0.1.kind)&&BN ML v.pairs):=by
  have h2:p0.1.kind=1\/p0.1.kind=2:=by
   rcases Decidable.em (p0.1.kind=1)with h | h
   ·exact .inl h
   ·refine .inr ?_
    have h3:¬ p0.1.kind=1->p0.1.kind=2:=by simpa using h1
    exact h3 h
  rw[e]
  rcases h2 with h2 | h2<;>rw[h2]<;>rfl
 try refine A2 ?_
 refine AF ?_
 refine AG (A0 rfl (kn rfl) off_27_6) ?_
 refine AG (A5 rfl (kn rfl) rfl rfl one_25) ?_
 refine AG (WG (fs:=[]) (cs:=[.box 3 0]) rfl trivial ⟨(kn rfl),trivial⟩) ?_
 refine IZ rfl rfl rfl rfl (by kernel_rfl) (NP p0.1.kind v.pairs hlen (pok p0.1.kind) (fun x hx=>V7 p0.1.kind x (hp x hx).1 (hp x hx).2)) ⟨rfl,trivial⟩ trivial ⟨(kn rfl),⟨(kn rfl),trivial⟩⟩ (YB.tidy) ?_
 rintro _ _ _ ⟨rfl,rfl,rfl⟩
 refine BA ?_
 refine H8 rfl rfl rfl (fun h=>A0 rfl (kn rfl) off_27_6) ?_
 refine H8 rfl rfl rfl (fun h=>A5 rfl (A3 rfl h) rfl rfl one_25) ?_
 refine H8 rfl rfl rfl (fun h=>AE rfl (by kernel_rfl) (LC 100 (by kernel_rfl) v.pairs hlen ML (fun x hx y hy=>OQ x y (GU x.1 (D8 hs hx).1 y.1 (D8 hs hy).1))) ⟨(A3 rfl h),⟨(kn rfl),trivial⟩⟩) ?_
 refine AG (AQ rfl (kn rfl) (fun hb=>A3 rfl hb)) ?_
 refine BY ?_
 refine AD ?_
 try refine A2 ?_
 exact A8 rfl rfl (.tmp (kn rfl) (.nil)) (B4 e2.symm) rfl
set_option maxHeartbeats 1000000 in
theorem NU(v:Vl)(hs:BH v)(hf:∀ f∈v.fields,DH f.2)(hl:∀ x∈v.list,DH x)(hp:∀ p∈v.pairs,DH p.1/\DH p.2):DH v:=by
 unfold DH
 rw[PS]
 obtain⟨a1,a2,a3⟩:=H0 hs
 refine AH 43 Try.func88 rfl rfl rfl fun w D=>?_
 try refine A2 ?_
 refine AF ?_
 refine BX 1 rfl rfl rfl rfl (kn rfl) rfl rfl rfl rfl ?_
 refine BY ?_
 refine AD ?_
 try refine A2 ?_
 refine A1 (A4 rfl rfl rfl (A7 (ds:=[_,_,_,_,_,_,_]) 7 rfl (kn rfl) rfl rfl agg_27 sz_27 rfl) (A4 rfl rfl rfl (AE rfl (by kernel_rfl) (UZ v) ⟨(kn rfl),trivial⟩) (A4 rfl rfl rfl (D1 rfl (kn rfl)) .nil))) ?_
 try refine A2 ?_
 refine AA rfl (fun h=>?_) (fun h=>?_)
 ·have e:H7 v=false:=by
   unfold H7
   rw[show GQ v=false by simpa using h]
   rfl
  try refine A2 ?_
  refine A1 (AC rfl rfl rfl rfl rfl .nil) ?_
  try refine A2 ?_
  exact A8 rfl rfl (.tmp (kn rfl) (.nil)) (B4 e.symm) rfl
 have e:H7 v=(if v.kind=0\/v.kind=1\/v.kind=2 then true else if v.kind=3 then v.fields.all fok&&BN K3 v.fields else if v.kind=4 then decide (v.list≠[])&&v.list.all HJ else if v.kind=5 then E3 v.pairs else false):=by
  unfold H7
  rw[show GQ v=true by simpa using h]
  exact Bool.true_and _
 clear h
 try refine A2 ?_
 refine A1 (A4 rfl rfl rfl (A0 rfl (kn rfl) off_27_0) (A4 rfl rfl rfl (A5 rfl (kn rfl) rfl rfl one_3) .nil)) ?_
 try refine A2 ?_
 try refine A2 ?_
 refine A1 (A4 rfl rfl rfl (A6 rfl (kn rfl) (kn rfl) AO) (AC rfl rfl rfl rfl rfl .nil)) ?_
 try refine A2 ?_
 refine AA rfl (fun q0=>?_) (fun q0=>?_)
 ·try refine A2 ?_
  refine AA rfl (fun _=>?_) (fun h=>absurd (h.symm.trans q0) (by decide))
  try refine A2 ?_
  refine A1 (AC rfl rfl rfl rfl rfl .nil) ?_
  try refine A2 ?_
  exact A8 rfl rfl (.tmp (kn rfl) (.nil)) (B4 (by rw[e];exact(if_pos (.inl (of_decide_eq_true q0))).symm)) rfl
 try refine A2 ?_
 refine A1 (A4 rfl rfl rfl (A6 rfl (kn rfl) (kn rfl) AO) (AC rfl rfl rfl rfl rfl .nil)) ?_
 try refine A2 ?_
 refine AA rfl (fun q1=>?_) (fun q1=>?_)
 ·try refine A2 ?_
  refine AA rfl (fun _=>?_) (fun h=>absurd (h.symm.trans q1) (by decide))
  try refine A2 ?_
  refine A1 (AC rfl rfl rfl rfl rfl .nil) ?_
  try refine A2 ?_
  exact A8 rfl rfl (.tmp (kn rfl) (.nil)) (B4 (by rw[e];exact(if_pos (.inr (.inl (of_decide_eq_true q1)))).symm)) rfl
 try refine A2 ?_
 refine A1 (A4 rfl rfl rfl (A6 rfl (kn rfl) (kn rfl) AO) (AC rfl rfl rfl rfl rfl .nil)) ?_
 try refine A2 ?_
 try refine A2 ?_
 refine AA rfl (fun q2=>?_) (fun q2=>?_)
 ·try refine A2 ?_
  refine A1 (AC rfl rfl rfl rfl rfl .nil) ?_
  try refine A2 ?_
  exact A8 rfl rfl (.tmp (kn rfl) (.nil)) (B4 (by rw[e];exact(if_pos (.inr (.inr (of_decide_eq_true q2)))).symm)) rfl
 have n0:=of_decide_eq_false q0
 have n1:=of_decide_eq_false q1
 have n2:=of_decide_eq_false q2
 rw[if_neg (by omega)]at e
 try refine A2 ?_
 refine A1 (A4 rfl rfl rfl (A6 rfl (kn rfl) (kn rfl) AO) (AC rfl rfl rfl rfl rfl .nil)) ?_
 try refine A2 ?_
 refine AA rfl (fun q3=>?_) (fun q3=>?_)
 ·rw[if_pos (of_decide_eq_true q3)]at e
  try refine A2 ?_
  refine A1 (A4 rfl rfl rfl (A0 rfl (kn rfl) off_27_3) (A4 rfl rfl rfl (A5 rfl (kn rfl) rfl rfl one_23) (A4 rfl rfl rfl (AE rfl (by kernel_rfl) (LY 103 (by kernel_rfl) v.fields a1 fok (fun x hx=>SI x (hf x hx))) ⟨(kn rfl),⟨(kn rfl),trivial⟩⟩) (A9 rfl rfl rfl rfl rfl (Walk.gd _ rfl rfl rfl (fun h=>A0 rfl (kn rfl) off_27_3) (Walk.gd _ rfl rfl rfl (fun h=>A5 rfl (A3 rfl h) rfl rfl one_23) (Walk.gd _ rfl rfl rfl (fun h=>AE rfl (by kernel_rfl) (K7 99 (by kernel_rfl) v.fields a1 K3 (fun x _ y _=>JW x y)) ⟨(A3 rfl h),⟨(kn rfl),trivial⟩⟩) (A4 rfl rfl rfl (AQ rfl (kn rfl) (fun hb=>A3 rfl hb)) (AC rfl rfl rfl rfl rfl .nil))))))))) ?_
  try refine A2 ?_
  exact A8 rfl rfl (.tmp (kn rfl) (.nil)) (B4 e.symm) rfl
 rw[if_neg (of_decide_eq_false q3)]at e
 try refine A2 ?_
 refine A1 (A4 rfl rfl rfl (A6 rfl (kn rfl) (kn rfl) AO) (AC rfl rfl rfl rfl rfl .nil)) ?_
 try refine A2 ?_
 refine AA rfl (fun q4=>?_) (fun q4=>?_)
 ·rw[if_pos (of_decide_eq_true q4)]at e
  try refine A2 ?_
  refine A1 (A4 rfl rfl rfl (A0 rfl (kn rfl) off_27_5) (A4 rfl rfl rfl (A5 rfl (kn rfl) rfl rfl one_24) (A4 rfl rfl rfl (AT rfl (kn rfl) sle_24) (A4 rfl rfl rfl (A6 rfl (kn rfl) (kn rfl) D7) (A9 rfl rfl rfl rfl rfl (Walk.gd _ rfl rfl rfl (fun h=>A0 rfl (kn rfl) off_27_5) (Walk.gd _ rfl rfl rfl (fun h=>A5 rfl (A3 rfl h) rfl rfl one_24) (Walk.gd _ rfl rfl rfl (fun h=>AE rfl (by kernel_rfl) (OG 106 (by kernel_rfl) v.list a2 HJ (fun x hx=>MO x (hl x hx))) ⟨(A3 rfl h),⟨(kn rfl),trivial⟩⟩) (A4 rfl rfl rfl (AQ rfl (kn rfl) (fun hb=>A3 rfl hb)) (AC rfl rfl rfl rfl rfl .nil)))))))))) ?_
  try refine A2 ?_
  exact A8 rfl rfl (.tmp (kn rfl) (.nil)) (B4 (by rw[e];simp[Nat.pos_iff_ne_zero])) rfl
 rw[if_neg (of_decide_eq_false q4)]at e
 try refine A2 ?_
 refine A1 (A4 rfl rfl rfl (A6 rfl (kn rfl) (kn rfl) AO) (AC rfl rfl rfl rfl rfl .nil)) ?_
 try refine A2 ?_
 refine AA rfl (fun q5=>?_) (fun q5=>?_)
 ·rw[if_pos (of_decide_eq_true q5)]at e
  try refine A2 ?_
  refine A1 (A4 rfl rfl rfl (A0 rfl (kn rfl) off_27_6) (A4 rfl rfl rfl (A5 rfl (kn rfl) rfl rfl one_25) (A4 rfl rfl rfl (AT rfl (kn rfl) sle_25) (A4 rfl rfl rfl (A6 rfl (kn rfl) (kn rfl) D7) (A9 rfl rfl rfl rfl rfl (Walk.gd _ rfl rfl rfl (fun h=>A7 (ds:=[_,_,_,_,_,_,_]) 7 rfl (kn rfl) rfl rfl agg_27 sz_27 rfl) (Walk.gd _ rfl rfl rfl (fun h=>AE rfl (by kernel_rfl) (M7 v hs (List.length_pos_iff.1 (by have:=of_decide_eq_true h;omega)) hp) ⟨(A3 rfl h),trivial⟩) (A4 rfl rfl rfl (AQ rfl (kn rfl) (fun hb=>A3 rfl hb)) (AC rfl rfl rfl rfl rfl .nil))))))))) ?_
  try refine A2 ?_
  exact A8 rfl rfl (.tmp (kn rfl) (.nil)) (B4 (by rw[e];cases hv:v.pairs<;>simp[E3])) rfl
 rw[if_neg (of_decide_eq_false q5)]at e
 try refine A2 ?_
 refine A1 (AC rfl rfl rfl rfl rfl .nil) ?_
 try refine A2 ?_
 exact A8 rfl rfl (.tmp (kn rfl) (.nil)) (B4 e.symm) rfl
theorem FI(v:Vl)(hv:BH v):DH v:=by
 revert hv
 exact Vl.parts (P:=fun a=>BH a->DH a) (fun v hf hl hp ha=>NU v ha (fun f h=>hf f h (GI ha h)) (fun x h=>hl x h (IA ha h)) (fun p h=>⟨(hp p h).1 (D8 ha h).1,(hp p h).2 (D8 ha h).2⟩)) v
abbrev sB(z:Int):BL:=[(3,⟨3,[.is (.int .i64 z)]⟩)]
abbrev YS(z:Int)(y:IV)(B1:BL)(R1:RL):Prop:=y=.tup []/\B1=sB z/\R1=[]
theorem YS.tidy{z z':Int}(y:IV)(B1:BL)(R1:RL)(h:YS z' y B1 R1):QE (sB z) [] y B1 R1:=by
 obtain⟨rfl,rfl,rfl⟩:=h
 exact⟨rfl,rfl,rfl,rfl⟩
abbrev pP(ds:List Dat):Part:=.one (.pref ds)
theorem KI(v:Vl)(hv:BH v):EF Try.prog [] 87 [.many (vd v)] (.part (tP (E5 v))):=by
 refine AH 10 Try.func87 rfl rfl rfl fun w D=>?_
 try refine A2 ?_
 refine AF ?_
 refine BX 1 rfl rfl rfl rfl (kn rfl) rfl rfl rfl rfl ?_
 refine BY ?_
 refine AD ?_
 try refine A2 ?_
 refine A1 (A4 rfl rfl rfl (A0 rfl (kn rfl) off_27_0) (A4 rfl rfl rfl (A5 rfl (kn rfl) rfl rfl one_3) (A4 rfl rfl rfl (A6 rfl (kn rfl) (kn rfl) AO) (A9 rfl rfl rfl rfl rfl (Walk.gd _ rfl rfl rfl (fun h=>A7 (ds:=[_,_,_,_,_,_,_]) 7 rfl (kn rfl) rfl rfl agg_27 sz_27 rfl) (Walk.gd _ rfl rfl rfl (fun h=>AE rfl (by kernel_rfl) (FI v hv) ⟨(A3 rfl h),trivial⟩) (A4 rfl rfl rfl (AQ rfl (kn rfl) (fun hb=>A3 rfl hb)) (AC rfl rfl rfl rfl rfl .nil)))))))) ?_
 try refine A2 ?_
 exact A8 rfl rfl (.tmp (kn rfl) (.nil)) (Imp.of_eq rfl) rfl
theorem SQ(f g:FuncId)(hfc:B8 Try.prog f=true)(hgc:B8 Try.prog g=true)(l:List (Int×Ed))(hl:l.length<=80)(ok:Int×Ed->Bool)(ah:Int×Ed->Int×Ed->Bool)(h1:∀ x∈l,EF Try.prog [] f [pP (efd x)] (.part (tP (ok x))))(h2:∀ x∈l,∀ y∈l,EF Try.prog [] g [pP (efd x),pP (efd y)] (.part (tP (ah x y)))):
  EF Try.prog [] 37 [.one (.row 22 l.length (l.flatMap D3)),fP f,fP g] (.part (tP (BF ok ah none l))):=by
 refine AH 36 Try.func37 rfl rfl rfl fun w D=>?_
 try refine A2 ?_
 refine A1 (AC rfl rfl rfl rfl rfl .nil) ?_
 try refine A2 ?_
 refine A1 (A9 rfl rfl rfl rfl rfl (A4 rfl rfl rfl (AT rfl (kn rfl) sle_28) (A9 rfl rfl rfl rfl rfl .nil))) ?_
 try refine A2 ?_
 refine BB (ι:={ k:Nat // k<=l.length/\BF ok ah none l=BF ok ah (D5 l k) (l.drop k) })
  (fun k=>[(0,.part (.one (.row 22 l.length (l.flatMap D3)))),(1,.part (fP f)),(2,.part (fP g)),(9,.is (.int .i64 (l.length:Int))),(10,.is (.int .i64 (k.1:Int)))])
  (fun _=>[]) (fun _=>[]) (fun k=>l.length-k.1) ⟨0,by omega,rfl⟩
  (fun K=>AM ⟨s_t,s_t,s_t,s_t,s_t,trivial⟩ trivial trivial) ?_
 rintro⟨k,hk,hw⟩
 dsimp only at hk hw ⊢
 try refine A2 ?_
 refine A1 (A4 rfl rfl rfl (A6 rfl (kn rfl) (kn rfl) B7) .nil) ?_
 try refine A2 ?_
 refine AA rfl (fun h=>?_) (fun h=>?_)
 ·have hlt:k<l.length:=by have:=of_decide_eq_true h;omega
  obtain⟨x,hx⟩:∃ x,l[k]?=some x:=⟨_,List.getElem?_eq_getElem hlt⟩
  obtain⟨p,hp⟩:=NS hlt
  have mx:=List.mem_of_getElem? hx
  have mp:=List.mem_of_getElem? hp
  have hpo:=LH hp
  try refine A2 ?_
  refine A1 (A9 rfl rfl rfl rfl rfl (AC rfl rfl rfl rfl rfl .nil)) ?_
  try refine A2 ?_
  refine CT C5 (by kernel_rfl) (A9 rfl rfl rfl rfl rfl (A9 rfl rfl rfl rfl rfl (A9 rfl rfl rfl rfl rfl (A4 rfl rfl rfl (AL rfl (kn rfl) (kn rfl) (by omega) hx CO sle_28 esz_28 (CD x)) (A4 rfl rfl rfl (CZ rfl hfc (kn rfl) (h1 x mx) ⟨CU (kn rfl) (Imp.ref_pref _),trivial⟩) (A4 rfl rfl rfl (D1 rfl (kn rfl)) (A9 rfl rfl rfl rfl rfl (Walk.gd _ rfl rfl rfl (fun h=>AW rfl (kn rfl)) (Walk.gd _ rfl rfl rfl (fun h=>A6 rfl (A3 rfl h) (kn rfl) D7) (Walk.gd _ rfl rfl rfl (fun h=>AW rfl (A3 rfl h)) (Walk.gd _ rfl rfl rfl (fun h=>AW rfl (kn rfl)) (Walk.gd _ rfl rfl rfl (fun h=>AW rfl (kn rfl)) (Walk.gd _ rfl rfl rfl (fun h=>AW rfl (kn rfl)) (Walk.gd _ rfl rfl rfl (fun h=>A6 rfl (A3 rfl h) (kn rfl) (E2 (by first | omega | (dsimp only;omega)))) (Walk.gd _ rfl rfl rfl (fun h=>AL rfl (A3 rfl h) (A3 rfl h) (W8 h) hp CO sle_28 esz_28 (CD p)) (Walk.gd _ rfl rfl rfl (fun h=>AW rfl (kn rfl)) (Walk.gd _ rfl rfl rfl (fun h=>AW rfl (kn rfl)) (Walk.gd _ rfl rfl rfl (fun h=>AL rfl (A3 rfl h) (A3 rfl h) (by omega) hx CO sle_28 esz_28 (CD x)) (Walk.gd _ rfl rfl rfl (fun h=>CZ rfl hgc (A3 rfl h) (h2 p mp x mx) ⟨CU (A3 rfl h) (Imp.ref_pref _),CU (A3 rfl h) (Imp.ref_pref _),trivial⟩) (Walk.gd _ rfl rfl rfl (fun h=>D1 rfl (A3 rfl h)) (Walk.gd _ rfl rfl rfl (fun h=>AQ rfl (A3 rfl h) (fun hb=>A3 rfl (gb h hb))) (A4 rfl rfl rfl (DI rfl (kn rfl) (fun hb=>A3 rfl hb)) .nil)))))))))))))))))))))) ?_
  try refine A2 ?_
  refine AA rfl (fun h3=>?_) (fun h3=>?_)
  ·have e:BF ok ah none l=false:=by
    simp only[Bool.or_eq_true,Bool.and_eq_true,Bool.not_eq_true',decide_eq_true_eq]at h3
    rcases h3 with h3 | h3
    ·exact FN hx hw (.inl h3)
    ·exact FN hx hw (.inr ⟨p,by rw[hpo,if_neg (by omega)],h3.2⟩)
   try refine A2 ?_
   refine A1 (AC rfl rfl rfl rfl rfl .nil) ?_
   try refine A2 ?_
   exact A8 rfl rfl (.tmp (kn rfl) (.nil)) (B4 e.symm) rfl
  simp only[Bool.or_eq_false_iff,Bool.and_eq_false_iff,Bool.not_eq_false',decide_eq_false_iff_not]at h3
  have hw2:=JB hx hw h3.1 (fun p' hp'=>by
   rw[hpo]at hp'
   split at hp'
   ·cases hp'
   ·cases hp'
    rcases h3.2 with h4 | h4
    ·omega
    ·exact h4)
  try refine A2 ?_
  refine A1 (A4 rfl rfl rfl (A6 rfl (kn rfl) (kn rfl) (AS (by first | omega | (dsimp only;omega)))) (A9 rfl rfl rfl rfl rfl .nil)) ?_
  try refine A2 ?_
  refine AR ⟨k+1,by omega,hw2⟩ (by dsimp only;omega) (fun K=>AM ⟨s_t,s_t,s_t,s_t,s_t,trivial⟩ trivial trivial)
 have e:BF ok ah none l=true:=LM (by have:=of_decide_eq_false h;omega) hw
 try refine A2 ?_
 refine A1 (AC rfl rfl rfl rfl rfl .nil) ?_
 try refine A2 ?_
 exact A8 rfl rfl (.tmp (kn rfl) (.nil)) (B4 e.symm) rfl
theorem S9(f g:FuncId)(hfc:B8 Try.prog f=true)(hgc:B8 Try.prog g=true)(l:List ((Int×Int×Vl)×Ed))(hl:l.length<=80)(ok:(Int×Int×Vl)×Ed->Bool)(ah:(Int×Int×Vl)×Ed->(Int×Int×Vl)×Ed->Bool)(h1:∀ x∈l,EF Try.prog [] f [pP (esd x)] (.part (tP (ok x))))(h2:∀ x∈l,∀ y∈l,EF Try.prog [] g [pP (esd x),pP (esd y)] (.part (tP (ah x y)))):
  EF Try.prog [] 42 [.one (.row 30 l.length (l.flatMap B5)),fP f,fP g] (.part (tP (BF ok ah none l))):=by
 refine AH 36 Try.func42 rfl rfl rfl fun w D=>?_
 try refine A2 ?_
 refine A1 (AC rfl rfl rfl rfl rfl .nil) ?_
 try refine A2 ?_
 refine A1 (A9 rfl rfl rfl rfl rfl (A4 rfl rfl rfl (AT rfl (kn rfl) sle_29) (A9 rfl rfl rfl rfl rfl .nil))) ?_
 try refine A2 ?_
 refine BB (ι:={ k:Nat // k<=l.length/\BF ok ah none l=BF ok ah (D5 l k) (l.drop k) })
  (fun k=>[(0,.part (.one (.row 30 l.length (l.flatMap B5)))),(1,.part (fP f)),(2,.part (fP g)),(9,.is (.int .i64 (l.length:Int))),(10,.is (.int .i64 (k.1:Int)))])
  (fun _=>[]) (fun _=>[]) (fun k=>l.length-k.1) ⟨0,by omega,rfl⟩
  (fun K=>AM ⟨s_t,s_t,s_t,s_t,s_t,trivial⟩ trivial trivial) ?_
 rintro⟨k,hk,hw⟩
 dsimp only at hk hw ⊢
 try refine A2 ?_
 refine A1 (A4 rfl rfl rfl (A6 rfl (kn rfl) (kn rfl) B7) .nil) ?_
 try refine A2 ?_
 refine AA rfl (fun h=>?_) (fun h=>?_)
 ·have hlt:k<l.length:=by have:=of_decide_eq_true h;omega
  obtain⟨x,hx⟩:∃ x,l[k]?=some x:=⟨_,List.getElem?_eq_getElem hlt⟩
  obtain⟨p,hp⟩:=NS hlt
  have mx:=List.mem_of_getElem? hx
  have mp:=List.mem_of_getElem? hp
  have hpo:=LH hp
  try refine A2 ?_
  refine A1 (A9 rfl rfl rfl rfl rfl (AC rfl rfl rfl rfl rfl .nil)) ?_
  try refine A2 ?_
  refine CT C5 (by kernel_rfl) (A9 rfl rfl rfl rfl rfl (A9 rfl rfl rfl rfl rfl (A9 rfl rfl rfl rfl rfl (A4 rfl rfl rfl (AL rfl (kn rfl) (kn rfl) (by omega) hx BK sle_29 esz_29 (BJ x)) (A4 rfl rfl rfl (CZ rfl hfc (kn rfl) (h1 x mx) ⟨CU (kn rfl) (Imp.ref_pref _),trivial⟩) (A4 rfl rfl rfl (D1 rfl (kn rfl)) (A9 rfl rfl rfl rfl rfl (Walk.gd _ rfl rfl rfl (fun h=>AW rfl (kn rfl)) (Walk.gd _ rfl rfl rfl (fun h=>A6 rfl (A3 rfl h) (kn rfl) D7) (Walk.gd _ rfl rfl rfl (fun h=>AW rfl (A3 rfl h)) (Walk.gd _ rfl rfl rfl (fun h=>AW rfl (kn rfl)) (Walk.gd _ rfl rfl rfl (fun h=>AW rfl (kn rfl)) (Walk.gd _ rfl rfl rfl (fun h=>AW rfl (kn rfl)) (Walk.gd _ rfl rfl rfl (fun h=>A6 rfl (A3 rfl h) (kn rfl) (E2 (by first | omega | (dsimp only;omega)))) (Walk.gd _ rfl rfl rfl (fun h=>AL rfl (A3 rfl h) (A3 rfl h) (W8 h) hp BK sle_29 esz_29 (BJ p)) (Walk.gd _ rfl rfl rfl (fun h=>AW rfl (kn rfl)) (Walk.gd _ rfl rfl rfl (fun h=>AW rfl (kn rfl)) (Walk.gd _ rfl rfl rfl (fun h=>AL rfl (A3 rfl h) (A3 rfl h) (by omega) hx BK sle_29 esz_29 (BJ x)) (Walk.gd _ rfl rfl rfl (fun h=>CZ rfl hgc (A3 rfl h) (h2 p mp x mx) ⟨CU (A3 rfl h) (Imp.ref_pref _),CU (A3 rfl h) (Imp.ref_pref _),trivial⟩) (Walk.gd _ rfl rfl rfl (fun h=>D1 rfl (A3 rfl h)) (Walk.gd _ rfl rfl rfl (fun h=>AQ rfl (A3 rfl h) (fun hb=>A3 rfl (gb h hb))) (A4 rfl rfl rfl (DI rfl (kn rfl) (fun hb=>A3 rfl hb)) .nil)))))))))))))))))))))) ?_
  try refine A2 ?_
  refine AA rfl (fun h3=>?_) (fun h3=>?_)
  ·have e:BF ok ah none l=false:=by
    simp only[Bool.or_eq_true,Bool.and_eq_true,Bool.not_eq_true',decide_eq_true_eq]at h3
    rcases h3 with h3 | h3
    ·exact FN hx hw (.inl h3)
    ·exact FN hx hw (.inr ⟨p,by rw[hpo,if_neg (by omega)],h3.2⟩)
   try refine A2 ?_
   refine A1 (AC rfl rfl rfl rfl rfl .nil) ?_
   try refine A2 ?_
   exact A8 rfl rfl (.tmp (kn rfl) (.nil)) (B4 e.symm) rfl
  simp only[Bool.or_eq_false_iff,Bool.and_eq_false_iff,Bool.not_eq_false',decide_eq_false_iff_not]at h3
  have hw2:=JB hx hw h3.1 (fun p' hp'=>by
   rw[hpo]at hp'
   split at hp'
   ·cases hp'
   ·cases hp'
    rcases h3.2 with h4 | h4
    ·omega
    ·exact h4)
  try refine A2 ?_
  refine A1 (A4 rfl rfl rfl (A6 rfl (kn rfl) (kn rfl) (AS (by first | omega | (dsimp only;omega)))) (A9 rfl rfl rfl rfl rfl .nil)) ?_
  try refine A2 ?_
  refine AR ⟨k+1,by omega,hw2⟩ (by dsimp only;omega) (fun K=>AM ⟨s_t,s_t,s_t,s_t,s_t,trivial⟩ trivial trivial)
 have e:BF ok ah none l=true:=LM (by have:=of_decide_eq_false h;omega) hw
 try refine A2 ?_
 refine A1 (AC rfl rfl rfl rfl rfl .nil) ?_
 try refine A2 ?_
 exact A8 rfl rfl (.tmp (kn rfl) (.nil)) (B4 e.symm) rfl
theorem SR(f g:FuncId)(hfc:B8 Try.prog f=true)(hgc:B8 Try.prog g=true)(l:List (Vl×Ed))(hl:l.length<=80)(ok:Vl×Ed->Bool)(ah:Vl×Ed->Vl×Ed->Bool)(h1:∀ x∈l,EF Try.prog [] f [pP (ekd x)] (.part (tP (ok x))))(h2:∀ x∈l,∀ y∈l,EF Try.prog [] g [pP (ekd x),pP (ekd y)] (.part (tP (ah x y)))):
  EF Try.prog [] 45 [.one (.row 28 l.length (l.flatMap D4)),fP f,fP g] (.part (tP (BF ok ah none l))):=by
 refine AH 36 Try.func45 rfl rfl rfl fun w D=>?_
 try refine A2 ?_
 refine A1 (AC rfl rfl rfl rfl rfl .nil) ?_
 try refine A2 ?_
 refine A1 (A9 rfl rfl rfl rfl rfl (A4 rfl rfl rfl (AT rfl (kn rfl) sle_30) (A9 rfl rfl rfl rfl rfl .nil))) ?_
 try refine A2 ?_
 refine BB (ι:={ k:Nat // k<=l.length/\BF ok ah none l=BF ok ah (D5 l k) (l.drop k) })
  (fun k=>[(0,.part (.one (.row 28 l.length (l.flatMap D4)))),(1,.part (fP f)),(2,.part (fP g)),(9,.is (.int .i64 (l.length:Int))),(10,.is (.int .i64 (k.1:Int)))])
  (fun _=>[]) (fun _=>[]) (fun k=>l.length-k.1) ⟨0,by omega,rfl⟩
  (fun K=>AM ⟨s_t,s_t,s_t,s_t,s_t,trivial⟩ trivial trivial) ?_
 rintro⟨k,hk,hw⟩
 dsimp only at hk hw ⊢
 try refine A2 ?_
 refine A1 (A4 rfl rfl rfl (A6 rfl (kn rfl) (kn rfl) B7) .nil) ?_
 try refine A2 ?_
 refine AA rfl (fun h=>?_) (fun h=>?_)
 ·have hlt:k<l.length:=by have:=of_decide_eq_true h;omega
  obtain⟨x,hx⟩:∃ x,l[k]?=some x:=⟨_,List.getElem?_eq_getElem hlt⟩
  obtain⟨p,hp⟩:=NS hlt
  have mx:=List.mem_of_getElem? hx
  have mp:=List.mem_of_getElem? hp
  have hpo:=LH hp
  try refine A2 ?_
  refine A1 (A9 rfl rfl rfl rfl rfl (AC rfl rfl rfl rfl rfl .nil)) ?_
  try refine A2 ?_
  refine CT C5 (by kernel_rfl) (A9 rfl rfl rfl rfl rfl (A9 rfl rfl rfl rfl rfl (A9 rfl rfl rfl rfl rfl (A4 rfl rfl rfl (AL rfl (kn rfl) (kn rfl) (by omega) hx CM sle_30 esz_30 (CG x)) (A4 rfl rfl rfl (CZ rfl hfc (kn rfl) (h1 x mx) ⟨CU (kn rfl) (Imp.ref_pref _),trivial⟩) (A4 rfl rfl rfl (D1 rfl (kn rfl)) (A9 rfl rfl rfl rfl rfl (Walk.gd _ rfl rfl rfl (fun h=>AW rfl (kn rfl)) (Walk.gd _ rfl rfl rfl (fun h=>A6 rfl (A3 rfl h) (kn rfl) D7) (Walk.gd _ rfl rfl rfl (fun h=>AW rfl (A3 rfl h)) (Walk.gd _ rfl rfl rfl (fun h=>AW rfl (kn rfl)) (Walk.gd _ rfl rfl rfl (fun h=>AW rfl (kn rfl)) (Walk.gd _ rfl rfl rfl (fun h=>AW rfl (kn rfl)) (Walk.gd _ rfl rfl rfl (fun h=>A6 rfl (A3 rfl h) (kn rfl) (E2 (by first | omega | (dsimp only;omega)))) (Walk.gd _ rfl rfl rfl (fun h=>AL rfl (A3 rfl h) (A3 rfl h) (W8 h) hp CM sle_30 esz_30 (CG p)) (Walk.gd _ rfl rfl rfl (fun h=>AW rfl (kn rfl)) (Walk.gd _ rfl rfl rfl (fun h=>AW rfl (kn rfl)) (Walk.gd _ rfl rfl rfl (fun h=>AL rfl (A3 rfl h) (A3 rfl h) (by omega) hx CM sle_30 esz_30 (CG x)) (Walk.gd _ rfl rfl rfl (fun h=>CZ rfl hgc (A3 rfl h) (h2 p mp x mx) ⟨CU (A3 rfl h) (Imp.ref_pref _),CU (A3 rfl h) (Imp.ref_pref _),trivial⟩) (Walk.gd _ rfl rfl rfl (fun h=>D1 rfl (A3 rfl h)) (Walk.gd _ rfl rfl rfl (fun h=>AQ rfl (A3 rfl h) (fun hb=>A3 rfl (gb h hb))) (A4 rfl rfl rfl (DI rfl (kn rfl) (fun hb=>A3 rfl hb)) .nil)))))))))))))))))))))) ?_
  try refine A2 ?_
  refine AA rfl (fun h3=>?_) (fun h3=>?_)
  ·have e:BF ok ah none l=false:=by
    simp only[Bool.or_eq_true,Bool.and_eq_true,Bool.not_eq_true',decide_eq_true_eq]at h3
    rcases h3 with h3 | h3
    ·exact FN hx hw (.inl h3)
    ·exact FN hx hw (.inr ⟨p,by rw[hpo,if_neg (by omega)],h3.2⟩)
   try refine A2 ?_
   refine A1 (AC rfl rfl rfl rfl rfl .nil) ?_
   try refine A2 ?_
   exact A8 rfl rfl (.tmp (kn rfl) (.nil)) (B4 e.symm) rfl
  simp only[Bool.or_eq_false_iff,Bool.and_eq_false_iff,Bool.not_eq_false',decide_eq_false_iff_not]at h3
  have hw2:=JB hx hw h3.1 (fun p' hp'=>by
   rw[hpo]at hp'
   split at hp'
   ·cases hp'
   ·cases hp'
    rcases h3.2 with h4 | h4
    ·omega
    ·exact h4)
  try refine A2 ?_
  refine A1 (A4 rfl rfl rfl (A6 rfl (kn rfl) (kn rfl) (AS (by first | omega | (dsimp only;omega)))) (A9 rfl rfl rfl rfl rfl .nil)) ?_
  try refine A2 ?_
  refine AR ⟨k+1,by omega,hw2⟩ (by dsimp only;omega) (fun K=>AM ⟨s_t,s_t,s_t,s_t,s_t,trivial⟩ trivial trivial)
 have e:BF ok ah none l=true:=LM (by have:=of_decide_eq_false h;omega) hw
 try refine A2 ?_
 refine A1 (AC rfl rfl rfl rfl rfl .nil) ?_
 try refine A2 ?_
 exact A8 rfl rfl (.tmp (kn rfl) (.nil)) (B4 e.symm) rfl
theorem V0{α:Type}{p:α->Bool}{l:List α}{k:Nat}(hk:l.length<=k)(h:l.any p=(l.drop k).any p):l.any p=false:=by
 rw[h,List.drop_eq_nil_of_le hk]
 rfl
theorem UF{α:Type}{p:α->Bool}{l:List α}{k:Nat}{x:α}(hx:l[k]?=some x)(h:l.any p=(l.drop k).any p):l.any p=(p x||(l.drop (k+1)).any p):=by
 rw[h,B6 hx,List.any_cons]
theorem W9(f:FuncId)(hfc:B8 Try.prog f=true)(l:List ((Int×Int×Vl)×Ed))(hl:l.length<=80)(p:(Int×Int×Vl)×Ed->Bool)(h1:∀ x∈l,EF Try.prog [] f [pP (esd x)] (.part (tP (p x)))):EF Try.prog [] 40 [.one (.row 30 l.length (l.flatMap B5)),fP f] (.part (tP (l.any p))):=by
 refine AH 17 Try.func40 rfl rfl rfl fun w D=>?_
 try refine A2 ?_
 refine A1 (AC rfl rfl rfl rfl rfl .nil) ?_
 try refine A2 ?_
 refine A1 (A9 rfl rfl rfl rfl rfl (A4 rfl rfl rfl (AT rfl (kn rfl) sle_29) (A9 rfl rfl rfl rfl rfl .nil))) ?_
 try refine A2 ?_
 refine BB (ι:={ k:Nat // k<=l.length/\l.any p=(l.drop k).any p })
  (fun k=>[(0,.part (.one (.row 30 l.length (l.flatMap B5)))),(1,.part (fP f)),(7,.is (.int .i64 (l.length:Int))),(8,.is (.int .i64 (k.1:Int)))])
  (fun _=>[]) (fun _=>[]) (fun k=>l.length-k.1) ⟨0,by omega,rfl⟩
  (fun K=>AM ⟨s_t,s_t,s_t,s_t,trivial⟩ trivial trivial) ?_
 rintro⟨k,hk,hw⟩
 dsimp only at hk hw ⊢
 try refine A2 ?_
 refine A1 (A4 rfl rfl rfl (A6 rfl (kn rfl) (kn rfl) B7) .nil) ?_
 try refine A2 ?_
 refine AA rfl (fun h=>?_) (fun h=>?_)
 ·have hlt:k<l.length:=by have:=of_decide_eq_true h;omega
  obtain⟨x,hx⟩:∃ x,l[k]?=some x:=⟨_,List.getElem?_eq_getElem hlt⟩
  have hs:=UF hx hw
  try refine A2 ?_
  refine A1 (A9 rfl rfl rfl rfl rfl (AC rfl rfl rfl rfl rfl .nil)) ?_
  try refine A2 ?_
  refine A1 (A9 rfl rfl rfl rfl rfl (A9 rfl rfl rfl rfl rfl (A9 rfl rfl rfl rfl rfl (A4 rfl rfl rfl (AL rfl (kn rfl) (kn rfl) (by omega) hx BK sle_29 esz_29 (BJ x)) (A4 rfl rfl rfl (CZ rfl hfc (kn rfl) (h1 x (List.mem_of_getElem? hx)) ⟨CU (kn rfl) (Imp.ref_pref _),trivial⟩) .nil))))) ?_
  try refine A2 ?_
  refine AA rfl (fun h3=>?_) (fun h3=>?_)
  ·have e:l.any p=true:=by rw[hs,h3];rfl
   try refine A2 ?_
   refine A1 (AC rfl rfl rfl rfl rfl .nil) ?_
   try refine A2 ?_
   exact A8 rfl rfl (.tmp (kn rfl) (.nil)) (B4 e.symm) rfl
  rw[h3,Bool.false_or]at hs
  try refine A2 ?_
  refine A1 (A4 rfl rfl rfl (A6 rfl (kn rfl) (kn rfl) (AS (by first | omega | (dsimp only;omega)))) (A9 rfl rfl rfl rfl rfl .nil)) ?_
  try refine A2 ?_
  refine AR ⟨k+1,by omega,hs⟩ (by dsimp only;omega) (fun K=>AM ⟨s_t,s_t,s_t,s_t,trivial⟩ trivial trivial)
 have e:l.any p=false:=V0 (by have:=of_decide_eq_false h;omega) hw
 try refine A2 ?_
 refine A1 (AC rfl rfl rfl rfl rfl .nil) ?_
 try refine A2 ?_
 exact A8 rfl rfl (.tmp (kn rfl) (.nil)) (B4 e.symm) rfl
end Go.Proofs.Ytecfdcdkkgmkpaa
