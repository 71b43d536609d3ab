/- Part 25. Conditions: as each theorem says. -/
import Derived.Test.YtojdpgeeajaojaaGreatET24
import Derived.Test.YtojdpgeeajaojaaGreatProg
set_option maxRecDepth 100000
namespace Go.Proofs.YtojdpgeeajaojaaGreat
open Go.RowKit
abbrev pP(ds:List Dat):Part:=.one (.pref ds)
theorem JI(v:Vl)(hv:B8 v):EF Tryz.prog [] 72 [.many (vd v)] (.part (tP (DE v))):=by
 refine AG 10 Tryz.func72 rfl rfl rfl fun w D=>?_
 try refine A3 ?_
 refine AI ?_
 refine B9 1 rfl rfl rfl rfl (kn rfl) rfl rfl rfl rfl ?_
 refine BX ?_
 refine AM ?_
 try refine A3 ?_
 refine A2 (A4 rfl rfl rfl (A1 rfl (kn rfl) off_27_0) (A4 rfl rfl rfl (A5 rfl (kn rfl) rfl rfl one_3) (A4 rfl rfl rfl (A6 rfl (kn rfl) (kn rfl) AP) (A9 rfl rfl rfl rfl rfl (Walk.gd _ rfl rfl rfl (fun h=>A7 (ds:=[_,_,_,_,_,_,_]) 7 rfl (kn rfl) rfl rfl agg_27 sz_27 rfl) (Walk.gd _ rfl rfl rfl (fun h=>AD rfl (by kernel_rfl) (EU v hv) ⟨(A0 rfl h),trivial⟩) (A4 rfl rfl rfl (AO rfl (kn rfl) (fun hb=>A0 rfl hb)) (AC rfl rfl rfl rfl rfl .nil)))))))) ?_
 try refine A3 ?_
 exact A8 rfl rfl (.tmp (kn rfl) (.nil)) (Imp.of_eq rfl) rfl
theorem Q5(f g:FuncId)(hfc:B4 Tryz.prog f=true)(hgc:B4 Tryz.prog g=true)(l:List (Int×Ed))(hl:l.length<=80)(ok:Int×Ed->Bool)(ah:Int×Ed->Int×Ed->Bool)(h1:∀ x∈l,EF Tryz.prog [] f [pP (efd x)] (.part (tP (ok x))))(h2:∀ x∈l,∀ y∈l,EF Tryz.prog [] g [pP (efd x),pP (efd y)] (.part (tP (ah x y)))):
  EF Tryz.prog [] 35 [.one (.row 22 l.length (l.flatMap CT)),fP f,fP g] (.part (tP (C3 ok ah none l))):=by
 refine AG 36 Tryz.func35 rfl rfl rfl fun w D=>?_
 try refine A3 ?_
 refine A2 (AC rfl rfl rfl rfl rfl .nil) ?_
 try refine A3 ?_
 refine A2 (A9 rfl rfl rfl rfl rfl (A4 rfl rfl rfl (AR rfl (kn rfl) sle_28) (A9 rfl rfl rfl rfl rfl .nil))) ?_
 try refine A3 ?_
 refine AX (ι:={ k:Nat // k<=l.length/\C3 ok ah none l=C3 ok ah (DA l k) (l.drop k) })
  (fun k=>[(0,.part (.one (.row 22 l.length (l.flatMap CT)))),(1,.part (fP f)),(2,.part (fP g)),(9,.is (.int .i64 (l.length:Int))),(10,.is (.int .i64 (k.1:Int)))])
  (fun _=>[]) (fun _=>[]) (fun k=>l.length-k.1) ⟨0,by omega,rfl⟩
  (fun K=>AL ⟨s_t,s_t,s_t,s_t,s_t,trivial⟩ trivial trivial) ?_
 rintro⟨k,hk,hw⟩
 dsimp only at hk hw ⊢
 try refine A3 ?_
 refine A2 (A4 rfl rfl rfl (A6 rfl (kn rfl) (kn rfl) AY) .nil) ?_
 try refine A3 ?_
 refine AB rfl (fun h=>?_) (fun h=>?_)
 ·have hlt:k<l.length:=by have:=of_decide_eq_true h;omega
  obtain⟨x,hx⟩:∃ x,l[k]?=some x:=⟨_,List.getElem?_eq_getElem hlt⟩
  obtain⟨p,hp⟩:=EC hlt
  have mx:=List.mem_of_getElem? hx
  have mp:=List.mem_of_getElem? hp
  have hpo:=EO hp
  try refine A3 ?_
  refine A2 (A9 rfl rfl rfl rfl rfl (AC rfl rfl rfl rfl rfl .nil)) ?_
  try refine A3 ?_
  refine BD BF (by kernel_rfl) (A9 rfl rfl rfl rfl rfl (A9 rfl rfl rfl rfl rfl (A9 rfl rfl rfl rfl rfl (A4 rfl rfl rfl (AJ rfl (kn rfl) (kn rfl) (by omega) hx BT sle_28 esz_28 (C0 x)) (A4 rfl rfl rfl (BY rfl hfc (kn rfl) (h1 x mx) ⟨B7 (kn rfl) (Imp.ref_pref _),trivial⟩) (A4 rfl rfl rfl (BZ rfl (kn rfl)) (A9 rfl rfl rfl rfl rfl (Walk.gd _ rfl rfl rfl (fun h=>AN rfl (kn rfl)) (Walk.gd _ rfl rfl rfl (fun h=>A6 rfl (A0 rfl h) (kn rfl) BN) (Walk.gd _ rfl rfl rfl (fun h=>AN rfl (A0 rfl h)) (Walk.gd _ rfl rfl rfl (fun h=>AN rfl (kn rfl)) (Walk.gd _ rfl rfl rfl (fun h=>AN rfl (kn rfl)) (Walk.gd _ rfl rfl rfl (fun h=>AN rfl (kn rfl)) (Walk.gd _ rfl rfl rfl (fun h=>A6 rfl (A0 rfl h) (kn rfl) (CV (by first | omega | (dsimp only;omega)))) (Walk.gd _ rfl rfl rfl (fun h=>AJ rfl (A0 rfl h) (A0 rfl h) (RQ h) hp BT sle_28 esz_28 (C0 p)) (Walk.gd _ rfl rfl rfl (fun h=>AN rfl (kn rfl)) (Walk.gd _ rfl rfl rfl (fun h=>AN rfl (kn rfl)) (Walk.gd _ rfl rfl rfl (fun h=>AJ rfl (A0 rfl h) (A0 rfl h) (by omega) hx BT sle_28 esz_28 (C0 x)) (Walk.gd _ rfl rfl rfl (fun h=>BY rfl hgc (A0 rfl h) (h2 p mp x mx) ⟨B7 (A0 rfl h) (Imp.ref_pref _),B7 (A0 rfl h) (Imp.ref_pref _),trivial⟩) (Walk.gd _ rfl rfl rfl (fun h=>BZ rfl (A0 rfl h)) (Walk.gd _ rfl rfl rfl (fun h=>AO rfl (A0 rfl h) (fun hb=>A0 rfl (gb h hb))) (A4 rfl rfl rfl (BO rfl (kn rfl) (fun hb=>A0 rfl hb)) .nil)))))))))))))))))))))) ?_
  try refine A3 ?_
  refine AB rfl (fun h3=>?_) (fun h3=>?_)
  ·have e:C3 ok ah none l=false:=by
    simp only[Bool.or_eq_true,Bool.and_eq_true,Bool.not_eq_true',decide_eq_true_eq]at h3
    rcases h3 with h3 | h3
    ·exact CW hx hw (.inl h3)
    ·exact CW hx hw (.inr ⟨p,by rw[hpo,if_neg (by omega)],h3.2⟩)
   try refine A3 ?_
   refine A2 (AC rfl rfl rfl rfl rfl .nil) ?_
   try refine A3 ?_
   exact A8 rfl rfl (.tmp (kn rfl) (.nil)) (AZ e.symm) rfl
  simp only[Bool.or_eq_false_iff,Bool.and_eq_false_iff,Bool.not_eq_false',decide_eq_false_iff_not]at h3
  have hw2:=DX hx hw h3.1 (fun p' hp'=>by
   rw[hpo]at hp'
   split at hp'
   ·cases hp'
   ·cases hp'
    rcases h3.2 with h4 | h4
    ·omega
    ·exact h4)
  try refine A3 ?_
  refine A2 (A4 rfl rfl rfl (A6 rfl (kn rfl) (kn rfl) (AK (by first | omega | (dsimp only;omega)))) (A9 rfl rfl rfl rfl rfl .nil)) ?_
  try refine A3 ?_
  refine AS ⟨k+1,by omega,hw2⟩ (by dsimp only;omega) (fun K=>AL ⟨s_t,s_t,s_t,s_t,s_t,trivial⟩ trivial trivial)
 have e:C3 ok ah none l=true:=F3 (by have:=of_decide_eq_false h;omega) hw
 try refine A3 ?_
 refine A2 (AC rfl rfl rfl rfl rfl .nil) ?_
 try refine A3 ?_
 exact A8 rfl rfl (.tmp (kn rfl) (.nil)) (AZ e.symm) rfl
theorem QU(f g:FuncId)(hfc:B4 Tryz.prog f=true)(hgc:B4 Tryz.prog g=true)(l:List ((Int×Int×Vl)×Ed))(hl:l.length<=80)(ok:(Int×Int×Vl)×Ed->Bool)(ah:(Int×Int×Vl)×Ed->(Int×Int×Vl)×Ed->Bool)(h1:∀ x∈l,EF Tryz.prog [] f [pP (esd x)] (.part (tP (ok x))))(h2:∀ x∈l,∀ y∈l,EF Tryz.prog [] g [pP (esd x),pP (esd y)] (.part (tP (ah x y)))):
  EF Tryz.prog [] 40 [.one (.row 30 l.length (l.flatMap CA)),fP f,fP g] (.part (tP (C3 ok ah none l))):=by
 refine AG 36 Tryz.func40 rfl rfl rfl fun w D=>?_
 try refine A3 ?_
 refine A2 (AC rfl rfl rfl rfl rfl .nil) ?_
 try refine A3 ?_
 refine A2 (A9 rfl rfl rfl rfl rfl (A4 rfl rfl rfl (AR rfl (kn rfl) sle_29) (A9 rfl rfl rfl rfl rfl .nil))) ?_
 try refine A3 ?_
 refine AX (ι:={ k:Nat // k<=l.length/\C3 ok ah none l=C3 ok ah (DA l k) (l.drop k) })
  (fun k=>[(0,.part (.one (.row 30 l.length (l.flatMap CA)))),(1,.part (fP f)),(2,.part (fP g)),(9,.is (.int .i64 (l.length:Int))),(10,.is (.int .i64 (k.1:Int)))])
  (fun _=>[]) (fun _=>[]) (fun k=>l.length-k.1) ⟨0,by omega,rfl⟩
  (fun K=>AL ⟨s_t,s_t,s_t,s_t,s_t,trivial⟩ trivial trivial) ?_
 rintro⟨k,hk,hw⟩
 dsimp only at hk hw ⊢
 try refine A3 ?_
 refine A2 (A4 rfl rfl rfl (A6 rfl (kn rfl) (kn rfl) AY) .nil) ?_
 try refine A3 ?_
 refine AB rfl (fun h=>?_) (fun h=>?_)
 ·have hlt:k<l.length:=by have:=of_decide_eq_true h;omega
  obtain⟨x,hx⟩:∃ x,l[k]?=some x:=⟨_,List.getElem?_eq_getElem hlt⟩
  obtain⟨p,hp⟩:=EC hlt
  have mx:=List.mem_of_getElem? hx
  have mp:=List.mem_of_getElem? hp
  have hpo:=EO hp
  try refine A3 ?_
  refine A2 (A9 rfl rfl rfl rfl rfl (AC rfl rfl rfl rfl rfl .nil)) ?_
  try refine A3 ?_
  refine BD BF (by kernel_rfl) (A9 rfl rfl rfl rfl rfl (A9 rfl rfl rfl rfl rfl (A9 rfl rfl rfl rfl rfl (A4 rfl rfl rfl (AJ rfl (kn rfl) (kn rfl) (by omega) hx BM sle_29 esz_29 (BR x)) (A4 rfl rfl rfl (BY rfl hfc (kn rfl) (h1 x mx) ⟨B7 (kn rfl) (Imp.ref_pref _),trivial⟩) (A4 rfl rfl rfl (BZ rfl (kn rfl)) (A9 rfl rfl rfl rfl rfl (Walk.gd _ rfl rfl rfl (fun h=>AN rfl (kn rfl)) (Walk.gd _ rfl rfl rfl (fun h=>A6 rfl (A0 rfl h) (kn rfl) BN) (Walk.gd _ rfl rfl rfl (fun h=>AN rfl (A0 rfl h)) (Walk.gd _ rfl rfl rfl (fun h=>AN rfl (kn rfl)) (Walk.gd _ rfl rfl rfl (fun h=>AN rfl (kn rfl)) (Walk.gd _ rfl rfl rfl (fun h=>AN rfl (kn rfl)) (Walk.gd _ rfl rfl rfl (fun h=>A6 rfl (A0 rfl h) (kn rfl) (CV (by first | omega | (dsimp only;omega)))) (Walk.gd _ rfl rfl rfl (fun h=>AJ rfl (A0 rfl h) (A0 rfl h) (RQ h) hp BM sle_29 esz_29 (BR p)) (Walk.gd _ rfl rfl rfl (fun h=>AN rfl (kn rfl)) (Walk.gd _ rfl rfl rfl (fun h=>AN rfl (kn rfl)) (Walk.gd _ rfl rfl rfl (fun h=>AJ rfl (A0 rfl h) (A0 rfl h) (by omega) hx BM sle_29 esz_29 (BR x)) (Walk.gd _ rfl rfl rfl (fun h=>BY rfl hgc (A0 rfl h) (h2 p mp x mx) ⟨B7 (A0 rfl h) (Imp.ref_pref _),B7 (A0 rfl h) (Imp.ref_pref _),trivial⟩) (Walk.gd _ rfl rfl rfl (fun h=>BZ rfl (A0 rfl h)) (Walk.gd _ rfl rfl rfl (fun h=>AO rfl (A0 rfl h) (fun hb=>A0 rfl (gb h hb))) (A4 rfl rfl rfl (BO rfl (kn rfl) (fun hb=>A0 rfl hb)) .nil)))))))))))))))))))))) ?_
  try refine A3 ?_
  refine AB rfl (fun h3=>?_) (fun h3=>?_)
  ·have e:C3 ok ah none l=false:=by
    simp only[Bool.or_eq_true,Bool.and_eq_true,Bool.not_eq_true',decide_eq_true_eq]at h3
    rcases h3 with h3 | h3
    ·exact CW hx hw (.inl h3)
    ·exact CW hx hw (.inr ⟨p,by rw[hpo,if_neg (by omega)],h3.2⟩)
   try refine A3 ?_
   refine A2 (AC rfl rfl rfl rfl rfl .nil) ?_
   try refine A3 ?_
   exact A8 rfl rfl (.tmp (kn rfl) (.nil)) (AZ e.symm) rfl
  simp only[Bool.or_eq_false_iff,Bool.and_eq_false_iff,Bool.not_eq_false',decide_eq_false_iff_not]at h3
  have hw2:=DX hx hw h3.1 (fun p' hp'=>by
   rw[hpo]at hp'
   split at hp'
   ·cases hp'
   ·cases hp'
    rcases h3.2 with h4 | h4
    ·omega
    ·exact h4)
  try refine A3 ?_
  refine A2 (A4 rfl rfl rfl (A6 rfl (kn rfl) (kn rfl) (AK (by first | omega | (dsimp only;omega)))) (A9 rfl rfl rfl rfl rfl .nil)) ?_
  try refine A3 ?_
  refine AS ⟨k+1,by omega,hw2⟩ (by dsimp only;omega) (fun K=>AL ⟨s_t,s_t,s_t,s_t,s_t,trivial⟩ trivial trivial)
 have e:C3 ok ah none l=true:=F3 (by have:=of_decide_eq_false h;omega) hw
 try refine A3 ?_
 refine A2 (AC rfl rfl rfl rfl rfl .nil) ?_
 try refine A3 ?_
 exact A8 rfl rfl (.tmp (kn rfl) (.nil)) (AZ e.symm) rfl
theorem QY(f g:FuncId)(hfc:B4 Tryz.prog f=true)(hgc:B4 Tryz.prog g=true)(l:List (Vl×Ed))(hl:l.length<=80)(ok:Vl×Ed->Bool)(ah:Vl×Ed->Vl×Ed->Bool)(h1:∀ x∈l,EF Tryz.prog [] f [pP (ekd x)] (.part (tP (ok x))))(h2:∀ x∈l,∀ y∈l,EF Tryz.prog [] g [pP (ekd x),pP (ekd y)] (.part (tP (ah x y)))):
  EF Tryz.prog [] 43 [.one (.row 28 l.length (l.flatMap CU)),fP f,fP g] (.part (tP (C3 ok ah none l))):=by
 refine AG 36 Tryz.func43 rfl rfl rfl fun w D=>?_
 try refine A3 ?_
 refine A2 (AC rfl rfl rfl rfl rfl .nil) ?_
 try refine A3 ?_
 refine A2 (A9 rfl rfl rfl rfl rfl (A4 rfl rfl rfl (AR rfl (kn rfl) sle_30) (A9 rfl rfl rfl rfl rfl .nil))) ?_
 try refine A3 ?_
 refine AX (ι:={ k:Nat // k<=l.length/\C3 ok ah none l=C3 ok ah (DA l k) (l.drop k) })
  (fun k=>[(0,.part (.one (.row 28 l.length (l.flatMap CU)))),(1,.part (fP f)),(2,.part (fP g)),(9,.is (.int .i64 (l.length:Int))),(10,.is (.int .i64 (k.1:Int)))])
  (fun _=>[]) (fun _=>[]) (fun k=>l.length-k.1) ⟨0,by omega,rfl⟩
  (fun K=>AL ⟨s_t,s_t,s_t,s_t,s_t,trivial⟩ trivial trivial) ?_
 rintro⟨k,hk,hw⟩
 dsimp only at hk hw ⊢
 try refine A3 ?_
 refine A2 (A4 rfl rfl rfl (A6 rfl (kn rfl) (kn rfl) AY) .nil) ?_
 try refine A3 ?_
 refine AB rfl (fun h=>?_) (fun h=>?_)
 ·have hlt:k<l.length:=by have:=of_decide_eq_true h;omega
  obtain⟨x,hx⟩:∃ x,l[k]?=some x:=⟨_,List.getElem?_eq_getElem hlt⟩
  obtain⟨p,hp⟩:=EC hlt
  have mx:=List.mem_of_getElem? hx
  have mp:=List.mem_of_getElem? hp
  have hpo:=EO hp
  try refine A3 ?_
  refine A2 (A9 rfl rfl rfl rfl rfl (AC rfl rfl rfl rfl rfl .nil)) ?_
  try refine A3 ?_
  refine BD BF (by kernel_rfl) (A9 rfl rfl rfl rfl rfl (A9 rfl rfl rfl rfl rfl (A9 rfl rfl rfl rfl rfl (A4 rfl rfl rfl (AJ rfl (kn rfl) (kn rfl) (by omega) hx BK sle_30 esz_30 (BS x)) (A4 rfl rfl rfl (BY rfl hfc (kn rfl) (h1 x mx) ⟨B7 (kn rfl) (Imp.ref_pref _),trivial⟩) (A4 rfl rfl rfl (BZ rfl (kn rfl)) (A9 rfl rfl rfl rfl rfl (Walk.gd _ rfl rfl rfl (fun h=>AN rfl (kn rfl)) (Walk.gd _ rfl rfl rfl (fun h=>A6 rfl (A0 rfl h) (kn rfl) BN) (Walk.gd _ rfl rfl rfl (fun h=>AN rfl (A0 rfl h)) (Walk.gd _ rfl rfl rfl (fun h=>AN rfl (kn rfl)) (Walk.gd _ rfl rfl rfl (fun h=>AN rfl (kn rfl)) (Walk.gd _ rfl rfl rfl (fun h=>AN rfl (kn rfl)) (Walk.gd _ rfl rfl rfl (fun h=>A6 rfl (A0 rfl h) (kn rfl) (CV (by first | omega | (dsimp only;omega)))) (Walk.gd _ rfl rfl rfl (fun h=>AJ rfl (A0 rfl h) (A0 rfl h) (RQ h) hp BK sle_30 esz_30 (BS p)) (Walk.gd _ rfl rfl rfl (fun h=>AN rfl (kn rfl)) (Walk.gd _ rfl rfl rfl (fun h=>AN rfl (kn rfl)) (Walk.gd _ rfl rfl rfl (fun h=>AJ rfl (A0 rfl h) (A0 rfl h) (by omega) hx BK sle_30 esz_30 (BS x)) (Walk.gd _ rfl rfl rfl (fun h=>BY rfl hgc (A0 rfl h) (h2 p mp x mx) ⟨B7 (A0 rfl h) (Imp.ref_pref _),B7 (A0 rfl h) (Imp.ref_pref _),trivial⟩) (Walk.gd _ rfl rfl rfl (fun h=>BZ rfl (A0 rfl h)) (Walk.gd _ rfl rfl rfl (fun h=>AO rfl (A0 rfl h) (fun hb=>A0 rfl (gb h hb))) (A4 rfl rfl rfl (BO rfl (kn rfl) (fun hb=>A0 rfl hb)) .nil)))))))))))))))))))))) ?_
  try refine A3 ?_
  refine AB rfl (fun h3=>?_) (fun h3=>?_)
  ·have e:C3 ok ah none l=false:=by
    simp only[Bool.or_eq_true,Bool.and_eq_true,Bool.not_eq_true',decide_eq_true_eq]at h3
    rcases h3 with h3 | h3
    ·exact CW hx hw (.inl h3)
    ·exact CW hx hw (.inr ⟨p,by rw[hpo,if_neg (by omega)],h3.2⟩)
   try refine A3 ?_
   refine A2 (AC rfl rfl rfl rfl rfl .nil) ?_
   try refine A3 ?_
   exact A8 rfl rfl (.tmp (kn rfl) (.nil)) (AZ e.symm) rfl
  simp only[Bool.or_eq_false_iff,Bool.and_eq_false_iff,Bool.not_eq_false',decide_eq_false_iff_not]at h3
  have hw2:=DX hx hw h3.1 (fun p' hp'=>by
   rw[hpo]at hp'
   split at hp'
   ·cases hp'
   ·cases hp'
    rcases h3.2 with h4 | h4
    ·omega
    ·exact h4)
  try refine A3 ?_
  refine A2 (A4 rfl rfl rfl (A6 rfl (kn rfl) (kn rfl) (AK (by first | omega | (dsimp only;omega)))) (A9 rfl rfl rfl rfl rfl .nil)) ?_
  try refine A3 ?_
  refine AS ⟨k+1,by omega,hw2⟩ (by dsimp only;omega) (fun K=>AL ⟨s_t,s_t,s_t,s_t,s_t,trivial⟩ trivial trivial)
 have e:C3 ok ah none l=true:=F3 (by have:=of_decide_eq_false h;omega) hw
 try refine A3 ?_
 refine A2 (AC rfl rfl rfl rfl rfl .nil) ?_
 try refine A3 ?_
 exact A8 rfl rfl (.tmp (kn rfl) (.nil)) (AZ e.symm) rfl
theorem TW{α:Type}{p:α->Bool}{l:List α}{k:Nat}(hk:l.length<=k)(h:l.any p=(l.drop k).any p):l.any p=false:=by
 rw[h,List.drop_eq_nil_of_le hk]
 rfl
theorem SQ{α:Type}{p:α->Bool}{l:List α}{k:Nat}{x:α}(hx:l[k]?=some x)(h:l.any p=(l.drop k).any p):l.any p=(p x||(l.drop (k+1)).any p):=by
 rw[h,BC hx,List.any_cons]
theorem U6(f:FuncId)(hfc:B4 Tryz.prog f=true)(l:List ((Int×Int×Vl)×Ed))(hl:l.length<=80)(p:(Int×Int×Vl)×Ed->Bool)(h1:∀ x∈l,EF Tryz.prog [] f [pP (esd x)] (.part (tP (p x)))):EF Tryz.prog [] 38 [.one (.row 30 l.length (l.flatMap CA)),fP f] (.part (tP (l.any p))):=by
 refine AG 17 Tryz.func38 rfl rfl rfl fun w D=>?_
 try refine A3 ?_
 refine A2 (AC rfl rfl rfl rfl rfl .nil) ?_
 try refine A3 ?_
 refine A2 (A9 rfl rfl rfl rfl rfl (A4 rfl rfl rfl (AR rfl (kn rfl) sle_29) (A9 rfl rfl rfl rfl rfl .nil))) ?_
 try refine A3 ?_
 refine AX (ι:={ k:Nat // k<=l.length/\l.any p=(l.drop k).any p })
  (fun k=>[(0,.part (.one (.row 30 l.length (l.flatMap CA)))),(1,.part (fP f)),(7,.is (.int .i64 (l.length:Int))),(8,.is (.int .i64 (k.1:Int)))])
  (fun _=>[]) (fun _=>[]) (fun k=>l.length-k.1) ⟨0,by omega,rfl⟩
  (fun K=>AL ⟨s_t,s_t,s_t,s_t,trivial⟩ trivial trivial) ?_
 rintro⟨k,hk,hw⟩
 dsimp only at hk hw ⊢
 try refine A3 ?_
 refine A2 (A4 rfl rfl rfl (A6 rfl (kn rfl) (kn rfl) AY) .nil) ?_
 try refine A3 ?_
 refine AB rfl (fun h=>?_) (fun h=>?_)
 ·have hlt:k<l.length:=by have:=of_decide_eq_true h;omega
  obtain⟨x,hx⟩:∃ x,l[k]?=some x:=⟨_,List.getElem?_eq_getElem hlt⟩
  have hs:=SQ hx hw
  try refine A3 ?_
  refine A2 (A9 rfl rfl rfl rfl rfl (AC rfl rfl rfl rfl rfl .nil)) ?_
  try refine A3 ?_
  refine A2 (A9 rfl rfl rfl rfl rfl (A9 rfl rfl rfl rfl rfl (A9 rfl rfl rfl rfl rfl (A4 rfl rfl rfl (AJ rfl (kn rfl) (kn rfl) (by omega) hx BM sle_29 esz_29 (BR x)) (A4 rfl rfl rfl (BY rfl hfc (kn rfl) (h1 x (List.mem_of_getElem? hx)) ⟨B7 (kn rfl) (Imp.ref_pref _),trivial⟩) .nil))))) ?_
  try refine A3 ?_
  refine AB rfl (fun h3=>?_) (fun h3=>?_)
  ·have e:l.any p=true:=by rw[hs,h3];rfl
   try refine A3 ?_
   refine A2 (AC rfl rfl rfl rfl rfl .nil) ?_
   try refine A3 ?_
   exact A8 rfl rfl (.tmp (kn rfl) (.nil)) (AZ e.symm) rfl
  rw[h3,Bool.false_or]at hs
  try refine A3 ?_
  refine A2 (A4 rfl rfl rfl (A6 rfl (kn rfl) (kn rfl) (AK (by first | omega | (dsimp only;omega)))) (A9 rfl rfl rfl rfl rfl .nil)) ?_
  try refine A3 ?_
  refine AS ⟨k+1,by omega,hs⟩ (by dsimp only;omega) (fun K=>AL ⟨s_t,s_t,s_t,s_t,trivial⟩ trivial trivial)
 have e:l.any p=false:=TW (by have:=of_decide_eq_false h;omega) hw
 try refine A3 ?_
 refine A2 (AC rfl rfl rfl rfl rfl .nil) ?_
 try refine A3 ?_
 exact A8 rfl rfl (.tmp (kn rfl) (.nil)) (AZ e.symm) rfl
theorem PA(f:FuncId)(hfc:B4 Tryz.prog f=true)(l m:List (Int×Ed))(hl:l.length<=80)(hm:m.length<=80)(p:Int×Ed->Int×Ed->Bool)(h1:∀ x∈l,∀ y∈m,EF Tryz.prog [] f [pP (efd x),pP (efd y)] (.part (tP (p x y)))):
  EF Tryz.prog [] 64 [.one (.row 22 l.length (l.flatMap CT)),.one (.row 22 m.length (m.flatMap CT)),fP f] (.part (tP (C6 p l m))):=by
 refine AG 28 Tryz.func64 rfl rfl rfl fun w D=>?_
 try refine A3 ?_
 refine A2 (AC rfl rfl rfl rfl rfl .nil) ?_
 try refine A3 ?_
 refine A2 (A9 rfl rfl rfl rfl rfl (A4 rfl rfl rfl (AR rfl (kn rfl) sle_28) (A9 rfl rfl rfl rfl rfl (A4 rfl rfl rfl (AR rfl (kn rfl) sle_28) (A4 rfl rfl rfl (A6 rfl (kn rfl) (kn rfl) BI) .nil))))) ?_
 try refine A3 ?_
 refine AB rfl (fun h=>?_) (fun h=>?_)
 ·have e:C6 p l m=false:=E9 (by
   simp only[Bool.not_eq_true',decide_eq_false_iff_not]at h
   omega)
  try refine A3 ?_
  refine A2 (AC rfl rfl rfl rfl rfl .nil) ?_
  try refine A3 ?_
  exact A8 rfl rfl (.tmp (kn rfl) (.nil)) (AZ e.symm) rfl
 have hlm:l.length=m.length:=by
  simp only[Bool.not_eq_false',decide_eq_true_eq]at h
  omega
 clear h
 try refine A3 ?_
 refine A2 (A9 rfl rfl rfl rfl rfl (A4 rfl rfl rfl (AR rfl (kn rfl) sle_28) (A9 rfl rfl rfl rfl rfl .nil))) ?_
 try refine A3 ?_
 refine AX (ι:={ k:Nat // k<=l.length/\C6 p l m=C6 p (l.drop k) (m.drop k) })
  (fun k=>[(0,.part (.one (.row 22 l.length (l.flatMap CT)))),(1,.part (.one (.row 22 m.length (m.flatMap CT)))),(2,.part (fP f)),(14,.is (.int .i64 (l.length:Int))),(15,.is (.int .i64 (k.1:Int)))])
  (fun _=>[]) (fun _=>[]) (fun k=>l.length-k.1) ⟨0,by omega,rfl⟩
  (fun K=>AL ⟨s_t,s_t,s_t,s_t,s_t,trivial⟩ trivial trivial) ?_
 rintro⟨k,hk,hw⟩
 dsimp only at hk hw ⊢
 try refine A3 ?_
 refine A2 (A4 rfl rfl rfl (A6 rfl (kn rfl) (kn rfl) AY) .nil) ?_
 try refine A3 ?_
 refine AB rfl (fun h=>?_) (fun h=>?_)
 ·have hlt:k<l.length:=by have:=of_decide_eq_true h;omega
  obtain⟨x,hx⟩:∃ x,l[k]?=some x:=⟨_,List.getElem?_eq_getElem hlt⟩
  obtain⟨y,hy⟩:∃ y,m[k]?=some y:=⟨_,List.getElem?_eq_getElem (by omega)⟩
  have hs:=E3 hx hy hw
  try refine A3 ?_
  refine A2 (A9 rfl rfl rfl rfl rfl (AC rfl rfl rfl rfl rfl .nil)) ?_
  try refine A3 ?_
  refine BD BF (by kernel_rfl) (A9 rfl rfl rfl rfl rfl (A9 rfl rfl rfl rfl rfl (A9 rfl rfl rfl rfl rfl (A4 rfl rfl rfl (AJ rfl (kn rfl) (kn rfl) (by omega) hx BT sle_28 esz_28 (C0 x)) (A9 rfl rfl rfl rfl rfl (A9 rfl rfl rfl rfl rfl (A4 rfl rfl rfl (AJ rfl (kn rfl) (kn rfl) (by omega) hy BT sle_28 esz_28 (C0 y)) (A4 rfl rfl rfl (BY rfl hfc (kn rfl) (h1 x (List.mem_of_getElem? hx) y (List.mem_of_getElem? hy)) ⟨B7 (kn rfl) (Imp.ref_pref _),B7 (kn rfl) (Imp.ref_pref _),trivial⟩) (A4 rfl rfl rfl (BZ rfl (kn rfl)) .nil))))))))) ?_
  try refine A3 ?_
  refine AB rfl (fun h3=>?_) (fun h3=>?_)
  ·have e:C6 p l m=false:=by rw[hs,IK h3];rfl
   try refine A3 ?_
   refine A2 (AC rfl rfl rfl rfl rfl .nil) ?_
   try refine A3 ?_
   exact A8 rfl rfl (.tmp (kn rfl) (.nil)) (AZ e.symm) rfl
  rw[IU h3,Bool.true_and]at hs
  try refine A3 ?_
  refine A2 (A4 rfl rfl rfl (A6 rfl (kn rfl) (kn rfl) (AK (by first | omega | (dsimp only;omega)))) (A9 rfl rfl rfl rfl rfl .nil)) ?_
  try refine A3 ?_
  refine AS ⟨k+1,by omega,hs⟩ (by dsimp only;omega) (fun K=>AL ⟨s_t,s_t,s_t,s_t,s_t,trivial⟩ trivial trivial)
 have e:C6 p l m=true:=F0 hlm (by have:=of_decide_eq_false h;omega) hw
 try refine A3 ?_
 refine A2 (AC rfl rfl rfl rfl rfl .nil) ?_
 try refine A3 ?_
 exact A8 rfl rfl (.tmp (kn rfl) (.nil)) (AZ e.symm) rfl
theorem OJ(f:FuncId)(hfc:B4 Tryz.prog f=true)(l m:List ((Int×Int×Vl)×Ed))(hl:l.length<=80)(hm:m.length<=80)(p:(Int×Int×Vl)×Ed->(Int×Int×Vl)×Ed->Bool)(h1:∀ x∈l,∀ y∈m,EF Tryz.prog [] f [pP (esd x),pP (esd y)] (.part (tP (p x y)))):
  EF Tryz.prog [] 66 [.one (.row 30 l.length (l.flatMap CA)),.one (.row 30 m.length (m.flatMap CA)),fP f] (.part (tP (C6 p l m))):=by
 refine AG 28 Tryz.func66 rfl rfl rfl fun w D=>?_
 try refine A3 ?_
 refine A2 (AC rfl rfl rfl rfl rfl .nil) ?_
 try refine A3 ?_
 refine A2 (A9 rfl rfl rfl rfl rfl (A4 rfl rfl rfl (AR rfl (kn rfl) sle_29) (A9 rfl rfl rfl rfl rfl (A4 rfl rfl rfl (AR rfl (kn rfl) sle_29) (A4 rfl rfl rfl (A6 rfl (kn rfl) (kn rfl) BI) .nil))))) ?_
 try refine A3 ?_
 refine AB rfl (fun h=>?_) (fun h=>?_)
 ·have e:C6 p l m=false:=E9 (by
   simp only[Bool.not_eq_true',decide_eq_false_iff_not]at h
   omega)
  try refine A3 ?_
  refine A2 (AC rfl rfl rfl rfl rfl .nil) ?_
  try refine A3 ?_
  exact A8 rfl rfl (.tmp (kn rfl) (.nil)) (AZ e.symm) rfl
 have hlm:l.length=m.length:=by
  simp only[Bool.not_eq_false',decide_eq_true_eq]at h
  omega
 clear h
 try refine A3 ?_
 refine A2 (A9 rfl rfl rfl rfl rfl (A4 rfl rfl rfl (AR rfl (kn rfl) sle_29) (A9 rfl rfl rfl rfl rfl .nil))) ?_
 try refine A3 ?_
 refine AX (ι:={ k:Nat // k<=l.length/\C6 p l m=C6 p (l.drop k) (m.drop k) })
  (fun k=>[(0,.part (.one (.row 30 l.length (l.flatMap CA)))),(1,.part (.one (.row 30 m.length (m.flatMap CA)))),(2,.part (fP f)),(14,.is (.int .i64 (l.length:Int))),(15,.is (.int .i64 (k.1:Int)))])
  (fun _=>[]) (fun _=>[]) (fun k=>l.length-k.1) ⟨0,by omega,rfl⟩
  (fun K=>AL ⟨s_t,s_t,s_t,s_t,s_t,trivial⟩ trivial trivial) ?_
 rintro⟨k,hk,hw⟩
 dsimp only at hk hw ⊢
 try refine A3 ?_
 refine A2 (A4 rfl rfl rfl (A6 rfl (kn rfl) (kn rfl) AY) .nil) ?_
 try refine A3 ?_
 refine AB rfl (fun h=>?_) (fun h=>?_)
 ·have hlt:k<l.length:=by have:=of_decide_eq_true h;omega
  obtain⟨x,hx⟩:∃ x,l[k]?=some x:=⟨_,List.getElem?_eq_getElem hlt⟩
  obtain⟨y,hy⟩:∃ y,m[k]?=some y:=⟨_,List.getElem?_eq_getElem (by omega)⟩
  have hs:=E3 hx hy hw
  try refine A3 ?_
  refine A2 (A9 rfl rfl rfl rfl rfl (AC rfl rfl rfl rfl rfl .nil)) ?_
  try refine A3 ?_
  refine BD BF (by kernel_rfl) (A9 rfl rfl rfl rfl rfl (A9 rfl rfl rfl rfl rfl (A9 rfl rfl rfl rfl rfl (A4 rfl rfl rfl (AJ rfl (kn rfl) (kn rfl) (by omega) hx BM sle_29 esz_29 (BR x)) (A9 rfl rfl rfl rfl rfl (A9 rfl rfl rfl rfl rfl (A4 rfl rfl rfl (AJ rfl (kn rfl) (kn rfl) (by omega) hy BM sle_29 esz_29 (BR y)) (A4 rfl rfl rfl (BY rfl hfc (kn rfl) (h1 x (List.mem_of_getElem? hx) y (List.mem_of_getElem? hy)) ⟨B7 (kn rfl) (Imp.ref_pref _),B7 (kn rfl) (Imp.ref_pref _),trivial⟩) (A4 rfl rfl rfl (BZ rfl (kn rfl)) .nil))))))))) ?_
  try refine A3 ?_
  refine AB rfl (fun h3=>?_) (fun h3=>?_)
  ·have e:C6 p l m=false:=by rw[hs,IK h3];rfl
   try refine A3 ?_
   refine A2 (AC rfl rfl rfl rfl rfl .nil) ?_
   try refine A3 ?_
   exact A8 rfl rfl (.tmp (kn rfl) (.nil)) (AZ e.symm) rfl
  rw[IU h3,Bool.true_and]at hs
  try refine A3 ?_
  refine A2 (A4 rfl rfl rfl (A6 rfl (kn rfl) (kn rfl) (AK (by first | omega | (dsimp only;omega)))) (A9 rfl rfl rfl rfl rfl .nil)) ?_
  try refine A3 ?_
  refine AS ⟨k+1,by omega,hs⟩ (by dsimp only;omega) (fun K=>AL ⟨s_t,s_t,s_t,s_t,s_t,trivial⟩ trivial trivial)
 have e:C6 p l m=true:=F0 hlm (by have:=of_decide_eq_false h;omega) hw
 try refine A3 ?_
 refine A2 (AC rfl rfl rfl rfl rfl .nil) ?_
 try refine A3 ?_
 exact A8 rfl rfl (.tmp (kn rfl) (.nil)) (AZ e.symm) rfl
theorem PB(f:FuncId)(hfc:B4 Tryz.prog f=true)(l m:List (Vl×Ed))(hl:l.length<=80)(hm:m.length<=80)(p:Vl×Ed->Vl×Ed->Bool)(h1:∀ x∈l,∀ y∈m,EF Tryz.prog [] f [pP (ekd x),pP (ekd y)] (.part (tP (p x y)))):
  EF Tryz.prog [] 68 [.one (.row 28 l.length (l.flatMap CU)),.one (.row 28 m.length (m.flatMap CU)),fP f] (.part (tP (C6 p l m))):=by
 refine AG 28 Tryz.func68 rfl rfl rfl fun w D=>?_
 try refine A3 ?_
 refine A2 (AC rfl rfl rfl rfl rfl .nil) ?_
 try refine A3 ?_
 refine A2 (A9 rfl rfl rfl rfl rfl (A4 rfl rfl rfl (AR rfl (kn rfl) sle_30) (A9 rfl rfl rfl rfl rfl (A4 rfl rfl rfl (AR rfl (kn rfl) sle_30) (A4 rfl rfl rfl (A6 rfl (kn rfl) (kn rfl) BI) .nil))))) ?_
 try refine A3 ?_
 refine AB rfl (fun h=>?_) (fun h=>?_)
 ·have e:C6 p l m=false:=E9 (by
   simp only[Bool.not_eq_true',decide_eq_false_iff_not]at h
   omega)
  try refine A3 ?_
  refine A2 (AC rfl rfl rfl rfl rfl .nil) ?_
  try refine A3 ?_
  exact A8 rfl rfl (.tmp (kn rfl) (.nil)) (AZ e.symm) rfl
 have hlm:l.length=m.length:=by
  simp only[Bool.not_eq_false',decide_eq_true_eq]at h
  omega
 clear h
 try refine A3 ?_
 refine A2 (A9 rfl rfl rfl rfl rfl (A4 rfl rfl rfl (AR rfl (kn rfl) sle_30) (A9 rfl rfl rfl rfl rfl .nil))) ?_
 try refine A3 ?_
 refine AX (ι:={ k:Nat // k<=l.length/\C6 p l m=C6 p (l.drop k) (m.drop k) })
  (fun k=>[(0,.part (.one (.row 28 l.length (l.flatMap CU)))),(1,.part (.one (.row 28 m.length (m.flatMap CU)))),(2,.part (fP f)),(14,.is (.int .i64 (l.length:Int))),(15,.is (.int .i64 (k.1:Int)))])
  (fun _=>[]) (fun _=>[]) (fun k=>l.length-k.1) ⟨0,by omega,rfl⟩
  (fun K=>AL ⟨s_t,s_t,s_t,s_t,s_t,trivial⟩ trivial trivial) ?_
 rintro⟨k,hk,hw⟩
 dsimp only at hk hw ⊢
 try refine A3 ?_
 refine A2 (A4 rfl rfl rfl (A6 rfl (kn rfl) (kn rfl) AY) .nil) ?_
 try refine A3 ?_
 refine AB rfl (fun h=>?_) (fun h=>?_)
 ·have hlt:k<l.length:=by have:=of_decide_eq_true h;omega
  obtain⟨x,hx⟩:∃ x,l[k]?=some x:=⟨_,List.getElem?_eq_getElem hlt⟩
  obtain⟨y,hy⟩:∃ y,m[k]?=some y:=⟨_,List.getElem?_eq_getElem (by omega)⟩
  have hs:=E3 hx hy hw
  try refine A3 ?_
  refine A2 (A9 rfl rfl rfl rfl rfl (AC rfl rfl rfl rfl rfl .nil)) ?_
  try refine A3 ?_
  refine BD BF (by kernel_rfl) (A9 rfl rfl rfl rfl rfl (A9 rfl rfl rfl rfl rfl (A9 rfl rfl rfl rfl rfl (A4 rfl rfl rfl (AJ rfl (kn rfl) (kn rfl) (by omega) hx BK sle_30 esz_30 (BS x)) (A9 rfl rfl rfl rfl rfl (A9 rfl rfl rfl rfl rfl (A4 rfl rfl rfl (AJ rfl (kn rfl) (kn rfl) (by omega) hy BK sle_30 esz_30 (BS y)) (A4 rfl rfl rfl (BY rfl hfc (kn rfl) (h1 x (List.mem_of_getElem? hx) y (List.mem_of_getElem? hy)) ⟨B7 (kn rfl) (Imp.ref_pref _),B7 (kn rfl) (Imp.ref_pref _),trivial⟩) (A4 rfl rfl rfl (BZ rfl (kn rfl)) .nil))))))))) ?_
  try refine A3 ?_
  refine AB rfl (fun h3=>?_) (fun h3=>?_)
  ·have e:C6 p l m=false:=by rw[hs,IK h3];rfl
   try refine A3 ?_
   refine A2 (AC rfl rfl rfl rfl rfl .nil) ?_
   try refine A3 ?_
   exact A8 rfl rfl (.tmp (kn rfl) (.nil)) (AZ e.symm) rfl
  rw[IU h3,Bool.true_and]at hs
  try refine A3 ?_
  refine A2 (A4 rfl rfl rfl (A6 rfl (kn rfl) (kn rfl) (AK (by first | omega | (dsimp only;omega)))) (A9 rfl rfl rfl rfl rfl .nil)) ?_
  try refine A3 ?_
  refine AS ⟨k+1,by omega,hs⟩ (by dsimp only;omega) (fun K=>AL ⟨s_t,s_t,s_t,s_t,s_t,trivial⟩ trivial trivial)
 have e:C6 p l m=true:=F0 hlm (by have:=of_decide_eq_false h;omega) hw
 try refine A3 ?_
 refine A2 (AC rfl rfl rfl rfl rfl .nil) ?_
 try refine A3 ?_
 exact A8 rfl rfl (.tmp (kn rfl) (.nil)) (AZ e.symm) rfl
theorem RS(f:FuncId)(hfc:B4 Tryz.prog f=true)(l:List (Int×Ed))(hl:l.length<=80)(g:Int×Ed->Nat)(hb:(l.map g).sum<=100000)(h1:∀ x∈l,EF Tryz.prog [] f [pP (efd x)] (.part (iP (g x)))):EF Tryz.prog [] 50 [.one (.row 22 l.length (l.flatMap CT)),fP f] (.part (iP ((l.map g).sum:Nat))):=by
 refine AG 21 Tryz.func50 rfl rfl rfl fun w D=>?_
 try refine A3 ?_
 refine A2 (AC rfl rfl rfl rfl rfl .nil) ?_
 try refine A3 ?_
 refine A2 (AC rfl rfl rfl rfl rfl .nil) ?_
 try refine A3 ?_
 refine A2 (A9 rfl rfl rfl rfl rfl (A4 rfl rfl rfl (AR rfl (kn rfl) sle_28) (A9 rfl rfl rfl rfl rfl .nil))) ?_
 try refine A3 ?_
 refine AX (ι:={ k:Nat // k<=l.length })
  (fun k=>[(0,.part (.one (.row 22 l.length (l.flatMap CT)))),(1,.part (fP f)),(5,.is (.int .i64 ((((l.take k.1).map g).sum:Nat):Int))),(8,.is (.int .i64 (l.length:Int))),(9,.is (.int .i64 (k.1:Int)))])
  (fun _=>[]) (fun _=>[]) (fun k=>l.length-k.1) ⟨0,by omega⟩
  (fun K=>AL ⟨s_t,s_t,⟨_,rfl,Imp.of_eq rfl⟩,s_t,s_t,trivial⟩ trivial trivial) ?_
 rintro⟨k,hk⟩
 dsimp only at hk ⊢
 try refine A3 ?_
 refine A2 (A4 rfl rfl rfl (A6 rfl (kn rfl) (kn rfl) AY) .nil) ?_
 try refine A3 ?_
 refine AB rfl (fun h=>?_) (fun h=>?_)
 ·have hlt:k<l.length:=by have:=of_decide_eq_true h;omega
  obtain⟨x,hx⟩:∃ x,l[k]?=some x:=⟨_,List.getElem?_eq_getElem hlt⟩
  have htk:=CQ (f:=g) hx
  have hle:=D2 g l (k+1)
  try refine A3 ?_
  refine A2 (A9 rfl rfl rfl rfl rfl (AC rfl rfl rfl rfl rfl .nil)) ?_
  try refine A3 ?_
  refine A2 (A9 rfl rfl rfl rfl rfl (A9 rfl rfl rfl rfl rfl (A9 rfl rfl rfl rfl rfl (A9 rfl rfl rfl rfl rfl (A4 rfl rfl rfl (AJ rfl (kn rfl) (kn rfl) (by omega) hx BT sle_28 esz_28 (C0 x)) (A4 rfl rfl rfl (BY rfl hfc (kn rfl) (h1 x (List.mem_of_getElem? hx)) ⟨B7 (kn rfl) (Imp.ref_pref _),trivial⟩) (A4 rfl rfl rfl (A6 rfl (kn rfl) (kn rfl) (AK (by first | omega | (dsimp only;omega)))) (AC rfl rfl rfl rfl rfl .nil)))))))) ?_
  try refine A3 ?_
  try refine A3 ?_
  refine A2 (A4 rfl rfl rfl (A6 rfl (kn rfl) (kn rfl) (AK (by first | omega | (dsimp only;omega)))) (A9 rfl rfl rfl rfl rfl .nil)) ?_
  try refine A3 ?_
  refine AS ⟨k+1,by omega⟩ (by dsimp only;omega) (fun K=>AL ⟨s_t,s_t,⟨_,rfl,Imp.of_eq (by rw[htk];rfl)⟩,s_t,s_t,trivial⟩ trivial trivial)
 obtain rfl:k=l.length:=by have:=of_decide_eq_false h;omega
 rw[List.take_length]
 try refine A3 ?_
 refine A2 (A9 rfl rfl rfl rfl rfl (AC rfl rfl rfl rfl rfl .nil)) ?_
 try refine A3 ?_
 exact A8 rfl rfl (.tmp (kn rfl) (.nil)) (Imp.of_eq rfl) rfl
theorem QQ(f:FuncId)(hfc:B4 Tryz.prog f=true)(l:List (Int×Ed))(hl:l.length<=80)(g:Int×Ed->Nat)(h1:∀ x∈l,EF Tryz.prog [] f [pP (efd x)] (.part (iP (g x)))):EF Tryz.prog [] 57 [.one (.row 22 l.length (l.flatMap CT)),fP f] (.part (iP (DS (l.map g):Nat))):=by
 refine AG 21 Tryz.func57 rfl rfl rfl fun w D=>?_
 try refine A3 ?_
 refine A2 (AC rfl rfl rfl rfl rfl .nil) ?_
 try refine A3 ?_
 refine A2 (AC rfl rfl rfl rfl rfl .nil) ?_
 try refine A3 ?_
 refine A2 (A9 rfl rfl rfl rfl rfl (A4 rfl rfl rfl (AR rfl (kn rfl) sle_28) (A9 rfl rfl rfl rfl rfl .nil))) ?_
 try refine A3 ?_
 refine AX (ι:={ k:Nat // k<=l.length })
  (fun k=>[(0,.part (.one (.row 22 l.length (l.flatMap CT)))),(1,.part (fP f)),(5,.is (.int .i64 ((DS ((l.take k.1).map g):Nat):Int))),(8,.is (.int .i64 (l.length:Int))),(9,.is (.int .i64 (k.1:Int)))])
  (fun _=>[]) (fun _=>[]) (fun k=>l.length-k.1) ⟨0,by omega⟩
  (fun K=>AL ⟨s_t,s_t,⟨_,rfl,Imp.of_eq rfl⟩,s_t,s_t,trivial⟩ trivial trivial) ?_
 rintro⟨k,hk⟩
 dsimp only at hk ⊢
 try refine A3 ?_
 refine A2 (A4 rfl rfl rfl (A6 rfl (kn rfl) (kn rfl) AY) .nil) ?_
 try refine A3 ?_
 refine AB rfl (fun h=>?_) (fun h=>?_)
 ·have hlt:k<l.length:=by have:=of_decide_eq_true h;omega
  obtain⟨x,hx⟩:∃ x,l[k]?=some x:=⟨_,List.getElem?_eq_getElem hlt⟩
  have htk:=DC (f:=g) hx
  try refine A3 ?_
  refine A2 (A9 rfl rfl rfl rfl rfl (AC rfl rfl rfl rfl rfl .nil)) ?_
  try refine A3 ?_
  refine A2 (A9 rfl rfl rfl rfl rfl (A9 rfl rfl rfl rfl rfl (A9 rfl rfl rfl rfl rfl (A9 rfl rfl rfl rfl rfl (A4 rfl rfl rfl (AJ rfl (kn rfl) (kn rfl) (by omega) hx BT sle_28 esz_28 (C0 x)) (A4 rfl rfl rfl (BY rfl hfc (kn rfl) (h1 x (List.mem_of_getElem? hx)) ⟨B7 (kn rfl) (Imp.ref_pref _),trivial⟩) (A4 rfl rfl rfl (R8 rfl (kn rfl) (kn rfl)) (AC rfl rfl rfl rfl rfl .nil)))))))) ?_
  try refine A3 ?_
  try refine A3 ?_
  refine A2 (A4 rfl rfl rfl (A6 rfl (kn rfl) (kn rfl) (AK (by first | omega | (dsimp only;omega)))) (A9 rfl rfl rfl rfl rfl .nil)) ?_
  try refine A3 ?_
  refine AS ⟨k+1,by omega⟩ (by dsimp only;omega) (fun K=>AL ⟨s_t,s_t,⟨_,rfl,Imp.of_eq (by rw[htk];congr 5;omega)⟩,s_t,s_t,trivial⟩ trivial trivial)
 obtain rfl:k=l.length:=by have:=of_decide_eq_false h;omega
 rw[List.take_length]
 try refine A3 ?_
 refine A2 (A9 rfl rfl rfl rfl rfl (AC rfl rfl rfl rfl rfl .nil)) ?_
 try refine A3 ?_
 exact A8 rfl rfl (.tmp (kn rfl) (.nil)) (Imp.of_eq rfl) rfl
theorem SX(f:FuncId)(hfc:B4 Tryz.prog f=true)(l:List ((Int×Int×Vl)×Ed))(hl:l.length<=80)(g:(Int×Int×Vl)×Ed->Nat)(hb:(l.map g).sum<=100000)(h1:∀ x∈l,EF Tryz.prog [] f [pP (esd x)] (.part (iP (g x)))):EF Tryz.prog [] 52 [.one (.row 30 l.length (l.flatMap CA)),fP f] (.part (iP ((l.map g).sum:Nat))):=by
 refine AG 21 Tryz.func52 rfl rfl rfl fun w D=>?_
 try refine A3 ?_
 refine A2 (AC rfl rfl rfl rfl rfl .nil) ?_
 try refine A3 ?_
 refine A2 (AC rfl rfl rfl rfl rfl .nil) ?_
 try refine A3 ?_
 refine A2 (A9 rfl rfl rfl rfl rfl (A4 rfl rfl rfl (AR rfl (kn rfl) sle_29) (A9 rfl rfl rfl rfl rfl .nil))) ?_
 try refine A3 ?_
 refine AX (ι:={ k:Nat // k<=l.length })
  (fun k=>[(0,.part (.one (.row 30 l.length (l.flatMap CA)))),(1,.part (fP f)),(5,.is (.int .i64 ((((l.take k.1).map g).sum:Nat):Int))),(8,.is (.int .i64 (l.length:Int))),(9,.is (.int .i64 (k.1:Int)))])
  (fun _=>[]) (fun _=>[]) (fun k=>l.length-k.1) ⟨0,by omega⟩
  (fun K=>AL ⟨s_t,s_t,⟨_,rfl,Imp.of_eq rfl⟩,s_t,s_t,trivial⟩ trivial trivial) ?_
 rintro⟨k,hk⟩
 dsimp only at hk ⊢
 try refine A3 ?_
 refine A2 (A4 rfl rfl rfl (A6 rfl (kn rfl) (kn rfl) AY) .nil) ?_
 try refine A3 ?_
 refine AB rfl (fun h=>?_) (fun h=>?_)
 ·have hlt:k<l.length:=by have:=of_decide_eq_true h;omega
  obtain⟨x,hx⟩:∃ x,l[k]?=some x:=⟨_,List.getElem?_eq_getElem hlt⟩
  have htk:=CQ (f:=g) hx
  have hle:=D2 g l (k+1)
  try refine A3 ?_
  refine A2 (A9 rfl rfl rfl rfl rfl (AC rfl rfl rfl rfl rfl .nil)) ?_
  try refine A3 ?_
  refine A2 (A9 rfl rfl rfl rfl rfl (A9 rfl rfl rfl rfl rfl (A9 rfl rfl rfl rfl rfl (A9 rfl rfl rfl rfl rfl (A4 rfl rfl rfl (AJ rfl (kn rfl) (kn rfl) (by omega) hx BM sle_29 esz_29 (BR x)) (A4 rfl rfl rfl (BY rfl hfc (kn rfl) (h1 x (List.mem_of_getElem? hx)) ⟨B7 (kn rfl) (Imp.ref_pref _),trivial⟩) (A4 rfl rfl rfl (A6 rfl (kn rfl) (kn rfl) (AK (by first | omega | (dsimp only;omega)))) (AC rfl rfl rfl rfl rfl .nil)))))))) ?_
  try refine A3 ?_
  try refine A3 ?_
  refine A2 (A4 rfl rfl rfl (A6 rfl (kn rfl) (kn rfl) (AK (by first | omega | (dsimp only;omega)))) (A9 rfl rfl rfl rfl rfl .nil)) ?_
  try refine A3 ?_
  refine AS ⟨k+1,by omega⟩ (by dsimp only;omega) (fun K=>AL ⟨s_t,s_t,⟨_,rfl,Imp.of_eq (by rw[htk];rfl)⟩,s_t,s_t,trivial⟩ trivial trivial)
 obtain rfl:k=l.length:=by have:=of_decide_eq_false h;omega
 rw[List.take_length]
 try refine A3 ?_
 refine A2 (A9 rfl rfl rfl rfl rfl (AC rfl rfl rfl rfl rfl .nil)) ?_
 try refine A3 ?_
 exact A8 rfl rfl (.tmp (kn rfl) (.nil)) (Imp.of_eq rfl) rfl
theorem QG(f:FuncId)(hfc:B4 Tryz.prog f=true)(l:List ((Int×Int×Vl)×Ed))(hl:l.length<=80)(g:(Int×Int×Vl)×Ed->Nat)(h1:∀ x∈l,EF Tryz.prog [] f [pP (esd x)] (.part (iP (g x)))):EF Tryz.prog [] 59 [.one (.row 30 l.length (l.flatMap CA)),fP f] (.part (iP (DS (l.map g):Nat))):=by
 refine AG 21 Tryz.func59 rfl rfl rfl fun w D=>?_
 try refine A3 ?_
 refine A2 (AC rfl rfl rfl rfl rfl .nil) ?_
 try refine A3 ?_
 refine A2 (AC rfl rfl rfl rfl rfl .nil) ?_
 try refine A3 ?_
 refine A2 (A9 rfl rfl rfl rfl rfl (A4 rfl rfl rfl (AR rfl (kn rfl) sle_29) (A9 rfl rfl rfl rfl rfl .nil))) ?_
 try refine A3 ?_
 refine AX (ι:={ k:Nat // k<=l.length })
  (fun k=>[(0,.part (.one (.row 30 l.length (l.flatMap CA)))),(1,.part (fP f)),(5,.is (.int .i64 ((DS ((l.take k.1).map g):Nat):Int))),(8,.is (.int .i64 (l.length:Int))),(9,.is (.int .i64 (k.1:Int)))])
  (fun _=>[]) (fun _=>[]) (fun k=>l.length-k.1) ⟨0,by omega⟩
  (fun K=>AL ⟨s_t,s_t,⟨_,rfl,Imp.of_eq rfl⟩,s_t,s_t,trivial⟩ trivial trivial) ?_
 rintro⟨k,hk⟩
 dsimp only at hk ⊢
 try refine A3 ?_
 refine A2 (A4 rfl rfl rfl (A6 rfl (kn rfl) (kn rfl) AY) .nil) ?_
 try refine A3 ?_
 refine AB rfl (fun h=>?_) (fun h=>?_)
 ·have hlt:k<l.length:=by have:=of_decide_eq_true h;omega
  obtain⟨x,hx⟩:∃ x,l[k]?=some x:=⟨_,List.getElem?_eq_getElem hlt⟩
  have htk:=DC (f:=g) hx
  try refine A3 ?_
  refine A2 (A9 rfl rfl rfl rfl rfl (AC rfl rfl rfl rfl rfl .nil)) ?_
  try refine A3 ?_
  refine A2 (A9 rfl rfl rfl rfl rfl (A9 rfl rfl rfl rfl rfl (A9 rfl rfl rfl rfl rfl (A9 rfl rfl rfl rfl rfl (A4 rfl rfl rfl (AJ rfl (kn rfl) (kn rfl) (by omega) hx BM sle_29 esz_29 (BR x)) (A4 rfl rfl rfl (BY rfl hfc (kn rfl) (h1 x (List.mem_of_getElem? hx)) ⟨B7 (kn rfl) (Imp.ref_pref _),trivial⟩) (A4 rfl rfl rfl (R8 rfl (kn rfl) (kn rfl)) (AC rfl rfl rfl rfl rfl .nil)))))))) ?_
  try refine A3 ?_
  try refine A3 ?_
  refine A2 (A4 rfl rfl rfl (A6 rfl (kn rfl) (kn rfl) (AK (by first | omega | (dsimp only;omega)))) (A9 rfl rfl rfl rfl rfl .nil)) ?_
  try refine A3 ?_
  refine AS ⟨k+1,by omega⟩ (by dsimp only;omega) (fun K=>AL ⟨s_t,s_t,⟨_,rfl,Imp.of_eq (by rw[htk];congr 5;omega)⟩,s_t,s_t,trivial⟩ trivial trivial)
 obtain rfl:k=l.length:=by have:=of_decide_eq_false h;omega
 rw[List.take_length]
 try refine A3 ?_
 refine A2 (A9 rfl rfl rfl rfl rfl (AC rfl rfl rfl rfl rfl .nil)) ?_
 try refine A3 ?_
 exact A8 rfl rfl (.tmp (kn rfl) (.nil)) (Imp.of_eq rfl) rfl
theorem RB(f:FuncId)(hfc:B4 Tryz.prog f=true)(l:List (Vl×Ed))(hl:l.length<=80)(g:Vl×Ed->Nat)(hb:(l.map g).sum<=100000)(h1:∀ x∈l,EF Tryz.prog [] f [pP (ekd x)] (.part (iP (g x)))):EF Tryz.prog [] 54 [.one (.row 28 l.length (l.flatMap CU)),fP f] (.part (iP ((l.map g).sum:Nat))):=by
 refine AG 21 Tryz.func54 rfl rfl rfl fun w D=>?_
 try refine A3 ?_
 refine A2 (AC rfl rfl rfl rfl rfl .nil) ?_
 try refine A3 ?_
 refine A2 (AC rfl rfl rfl rfl rfl .nil) ?_
 try refine A3 ?_
 refine A2 (A9 rfl rfl rfl rfl rfl (A4 rfl rfl rfl (AR rfl (kn rfl) sle_30) (A9 rfl rfl rfl rfl rfl .nil))) ?_
 try refine A3 ?_
 refine AX (ι:={ k:Nat // k<=l.length })
  (fun k=>[(0,.part (.one (.row 28 l.length (l.flatMap CU)))),(1,.part (fP f)),(5,.is (.int .i64 ((((l.take k.1).map g).sum:Nat):Int))),(8,.is (.int .i64 (l.length:Int))),(9,.is (.int .i64 (k.1:Int)))])
  (fun _=>[]) (fun _=>[]) (fun k=>l.length-k.1) ⟨0,by omega⟩
  (fun K=>AL ⟨s_t,s_t,⟨_,rfl,Imp.of_eq rfl⟩,s_t,s_t,trivial⟩ trivial trivial) ?_
 rintro⟨k,hk⟩
 dsimp only at hk ⊢
 try refine A3 ?_
 refine A2 (A4 rfl rfl rfl (A6 rfl (kn rfl) (kn rfl) AY) .nil) ?_
 try refine A3 ?_
 refine AB rfl (fun h=>?_) (fun h=>?_)
 ·have hlt:k<l.length:=by have:=of_decide_eq_true h;omega
  obtain⟨x,hx⟩:∃ x,l[k]?=some x:=⟨_,List.getElem?_eq_getElem hlt⟩
  have htk:=CQ (f:=g) hx
  have hle:=D2 g l (k+1)
  try refine A3 ?_
  refine A2 (A9 rfl rfl rfl rfl rfl (AC rfl rfl rfl rfl rfl .nil)) ?_
  try refine A3 ?_
  refine A2 (A9 rfl rfl rfl rfl rfl (A9 rfl rfl rfl rfl rfl (A9 rfl rfl rfl rfl rfl (A9 rfl rfl rfl rfl rfl (A4 rfl rfl rfl (AJ rfl (kn rfl) (kn rfl) (by omega) hx BK sle_30 esz_30 (BS x)) (A4 rfl rfl rfl (BY rfl hfc (kn rfl) (h1 x (List.mem_of_getElem? hx)) ⟨B7 (kn rfl) (Imp.ref_pref _),trivial⟩) (A4 rfl rfl rfl (A6 rfl (kn rfl) (kn rfl) (AK (by first | omega | (dsimp only;omega)))) (AC rfl rfl rfl rfl rfl .nil)))))))) ?_
  try refine A3 ?_
  try refine A3 ?_
  refine A2 (A4 rfl rfl rfl (A6 rfl (kn rfl) (kn rfl) (AK (by first | omega | (dsimp only;omega)))) (A9 rfl rfl rfl rfl rfl .nil)) ?_
  try refine A3 ?_
  refine AS ⟨k+1,by omega⟩ (by dsimp only;omega) (fun K=>AL ⟨s_t,s_t,⟨_,rfl,Imp.of_eq (by rw[htk];rfl)⟩,s_t,s_t,trivial⟩ trivial trivial)
 obtain rfl:k=l.length:=by have:=of_decide_eq_false h;omega
 rw[List.take_length]
 try refine A3 ?_
 refine A2 (A9 rfl rfl rfl rfl rfl (AC rfl rfl rfl rfl rfl .nil)) ?_
 try refine A3 ?_
 exact A8 rfl rfl (.tmp (kn rfl) (.nil)) (Imp.of_eq rfl) rfl
theorem R2(f:FuncId)(hfc:B4 Tryz.prog f=true)(l:List (Vl×Ed))(hl:l.length<=80)(g:Vl×Ed->Nat)(h1:∀ x∈l,EF Tryz.prog [] f [pP (ekd x)] (.part (iP (g x)))):EF Tryz.prog [] 61 [.one (.row 28 l.length (l.flatMap CU)),fP f] (.part (iP (DS (l.map g):Nat))):=by
 refine AG 21 Tryz.func61 rfl rfl rfl fun w D=>?_
 try refine A3 ?_
 refine A2 (AC rfl rfl rfl rfl rfl .nil) ?_
 try refine A3 ?_
 refine A2 (AC rfl rfl rfl rfl rfl .nil) ?_
 try refine A3 ?_
 refine A2 (A9 rfl rfl rfl rfl rfl (A4 rfl rfl rfl (AR rfl (kn rfl) sle_30) (A9 rfl rfl rfl rfl rfl .nil))) ?_
 try refine A3 ?_
 refine AX (ι:={ k:Nat // k<=l.length })
  (fun k=>[(0,.part (.one (.row 28 l.length (l.flatMap CU)))),(1,.part (fP f)),(5,.is (.int .i64 ((DS ((l.take k.1).map g):Nat):Int))),(8,.is (.int .i64 (l.length:Int))),(9,.is (.int .i64 (k.1:Int)))])
  (fun _=>[]) (fun _=>[]) (fun k=>l.length-k.1) ⟨0,by omega⟩
  (fun K=>AL ⟨s_t,s_t,⟨_,rfl,Imp.of_eq rfl⟩,s_t,s_t,trivial⟩ trivial trivial) ?_
 rintro⟨k,hk⟩
 dsimp only at hk ⊢
 try refine A3 ?_
 refine A2 (A4 rfl rfl rfl (A6 rfl (kn rfl) (kn rfl) AY) .nil) ?_
 try refine A3 ?_
 refine AB rfl (fun h=>?_) (fun h=>?_)
 ·have hlt:k<l.length:=by have:=of_decide_eq_true h;omega
  obtain⟨x,hx⟩:∃ x,l[k]?=some x:=⟨_,List.getElem?_eq_getElem hlt⟩
  have htk:=DC (f:=g) hx
  try refine A3 ?_
  refine A2 (A9 rfl rfl rfl rfl rfl (AC rfl rfl rfl rfl rfl .nil)) ?_
  try refine A3 ?_
  refine A2 (A9 rfl rfl rfl rfl rfl (A9 rfl rfl rfl rfl rfl (A9 rfl rfl rfl rfl rfl (A9 rfl rfl rfl rfl rfl (A4 rfl rfl rfl (AJ rfl (kn rfl) (kn rfl) (by omega) hx BK sle_30 esz_30 (BS x)) (A4 rfl rfl rfl (BY rfl hfc (kn rfl) (h1 x (List.mem_of_getElem? hx)) ⟨B7 (kn rfl) (Imp.ref_pref _),trivial⟩) (A4 rfl rfl rfl (R8 rfl (kn rfl) (kn rfl)) (AC rfl rfl rfl rfl rfl .nil)))))))) ?_
  try refine A3 ?_
  try refine A3 ?_
  refine A2 (A4 rfl rfl rfl (A6 rfl (kn rfl) (kn rfl) (AK (by first | omega | (dsimp only;omega)))) (A9 rfl rfl rfl rfl rfl .nil)) ?_
  try refine A3 ?_
  refine AS ⟨k+1,by omega⟩ (by dsimp only;omega) (fun K=>AL ⟨s_t,s_t,⟨_,rfl,Imp.of_eq (by rw[htk];congr 5;omega)⟩,s_t,s_t,trivial⟩ trivial trivial)
 obtain rfl:k=l.length:=by have:=of_decide_eq_false h;omega
 rw[List.take_length]
 try refine A3 ?_
 refine A2 (A9 rfl rfl rfl rfl rfl (AC rfl rfl rfl rfl rfl .nil)) ?_
 try refine A3 ?_
 exact A8 rfl rfl (.tmp (kn rfl) (.nil)) (Imp.of_eq rfl) rfl
end Go.Proofs.YtojdpgeeajaojaaGreat
