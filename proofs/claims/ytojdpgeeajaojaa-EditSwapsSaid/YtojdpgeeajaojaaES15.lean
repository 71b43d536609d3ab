/- Part 15. Conditions: as each theorem says. -/
import Derived.Test.YtojdpgeeajaojaaES14
import Derived.Test.YtojdpgeeajaojaaProg
set_option maxRecDepth 100000
namespace Go.Proofs.Ytojdpgeeajaojaa
open Go.RowKit
abbrev pP(ds:List Dat):Part:=.one (.pref ds)
theorem GV(v:Vl)(hv:AU v):EF Try.prog [] 69 [.many (vd v)] (.part (tP (E0 v))):=by
 refine AF 10 Try.func69 rfl rfl rfl fun w D=>?_
 try refine A2 ?_
 refine AI ?_
 refine BB 1 rfl rfl rfl rfl (kn rfl) rfl rfl rfl rfl ?_
 refine CM ?_
 refine AN ?_
 try refine A2 ?_
 refine A0 (A3 rfl rfl rfl (A4 rfl (kn rfl) off_27_0) (A3 rfl rfl rfl (A6 rfl (kn rfl) rfl rfl one_3) (A3 rfl rfl rfl (A9 rfl (kn rfl) (kn rfl) AK) (A8 rfl rfl rfl rfl rfl (Walk.gd _ rfl rfl rfl (fun h=>AB (ds:=[_,_,_,_,_,_,_]) 7 rfl (kn rfl) rfl rfl agg_27 sz_27 rfl) (Walk.gd _ rfl rfl rfl (fun h=>AG rfl (by kernel_rfl) (CC v hv) ⟨(A1 rfl h),trivial⟩) (A3 rfl rfl rfl (AJ rfl (kn rfl) (fun hb=>A1 rfl hb)) (AD rfl rfl rfl rfl rfl .nil)))))))) ?_
 try refine A2 ?_
 exact A7 rfl rfl (.tmp (kn rfl) (.nil)) (Imp.of_eq rfl) rfl
theorem MN(f g:FuncId)(hfc:AT Try.prog f=true)(hgc:AT Try.prog g=true)(l:List (Int×Ed))(hl:l.length<=80)(ok:Int×Ed->Bool)(ah:Int×Ed->Int×Ed->Bool)(h1:∀ x∈l,EF Try.prog [] f [pP (efd x)] (.part (tP (ok x))))(h2:∀ x∈l,∀ y∈l,EF Try.prog [] g [pP (efd x),pP (efd y)] (.part (tP (ah x y)))):
  EF Try.prog [] 35 [.one (.row 22 l.length (l.flatMap DV)),fP f,fP g] (.part (tP (BJ ok ah none l))):=by
 refine AF 36 Try.func35 rfl rfl rfl fun w D=>?_
 try refine A2 ?_
 refine A0 (AD rfl rfl rfl rfl rfl .nil) ?_
 try refine A2 ?_
 refine A0 (A8 rfl rfl rfl rfl rfl (A3 rfl rfl rfl (AS rfl (kn rfl) sle_31) (A8 rfl rfl rfl rfl rfl .nil))) ?_
 try refine A2 ?_
 refine BC (ι:={ k:Nat // k<=l.length/\BJ ok ah none l=BJ ok ah (CP l k) (l.drop k) })
  (fun k=>[(0,.part (.one (.row 22 l.length (l.flatMap DV)))),(1,.part (fP f)),(2,.part (fP g)),(9,.is (.int .i64 (l.length:Int))),(10,.is (.int .i64 (k.1:Int)))])
  (fun _=>[]) (fun _=>[]) (fun k=>l.length-k.1) ⟨0,by omega,rfl⟩
  (fun K=>AP ⟨s_t,s_t,s_t,s_t,s_t,trivial⟩ trivial trivial) ?_
 rintro⟨k,hk,hw⟩
 dsimp only at hk hw ⊢
 try refine A2 ?_
 refine A0 (A3 rfl rfl rfl (A9 rfl (kn rfl) (kn rfl) BE) .nil) ?_
 try refine A2 ?_
 refine AE rfl (fun h=>?_) (fun h=>?_)
 ·have hlt:k<l.length:=by have:=of_decide_eq_true h;omega
  obtain⟨x,hx⟩:∃ x,l[k]?=some x:=⟨_,List.getElem?_eq_getElem hlt⟩
  obtain⟨p,hp⟩:=J4 hlt
  have mx:=List.mem_of_getElem? hx
  have mp:=List.mem_of_getElem? hp
  have hpo:=H9 hp
  try refine A2 ?_
  refine A0 (A8 rfl rfl rfl rfl rfl (AD rfl rfl rfl rfl rfl .nil)) ?_
  try refine A2 ?_
  refine BO C0 (by kernel_rfl) (A8 rfl rfl rfl rfl rfl (A8 rfl rfl rfl rfl rfl (A8 rfl rfl rfl rfl rfl (A3 rfl rfl rfl (AO rfl (kn rfl) (kn rfl) (by omega) hx CT sle_31 esz_31 (CZ x)) (A3 rfl rfl rfl (BA rfl hfc (kn rfl) (h1 x mx) ⟨AW (kn rfl) (Imp.ref_pref _),trivial⟩) (A3 rfl rfl rfl (C1 rfl (kn rfl)) (A8 rfl rfl rfl rfl rfl (Walk.gd _ rfl rfl rfl (fun h=>AH rfl (kn rfl)) (Walk.gd _ rfl rfl rfl (fun h=>A9 rfl (A1 rfl h) (kn rfl) DG) (Walk.gd _ rfl rfl rfl (fun h=>AH rfl (A1 rfl h)) (Walk.gd _ rfl rfl rfl (fun h=>AH rfl (kn rfl)) (Walk.gd _ rfl rfl rfl (fun h=>AH rfl (kn rfl)) (Walk.gd _ rfl rfl rfl (fun h=>AH rfl (kn rfl)) (Walk.gd _ rfl rfl rfl (fun h=>A9 rfl (A1 rfl h) (kn rfl) (DO (by first | omega | (dsimp only;omega)))) (Walk.gd _ rfl rfl rfl (fun h=>AO rfl (A1 rfl h) (A1 rfl h) (PT h) hp CT sle_31 esz_31 (CZ p)) (Walk.gd _ rfl rfl rfl (fun h=>AH rfl (kn rfl)) (Walk.gd _ rfl rfl rfl (fun h=>AH rfl (kn rfl)) (Walk.gd _ rfl rfl rfl (fun h=>AO rfl (A1 rfl h) (A1 rfl h) (by omega) hx CT sle_31 esz_31 (CZ x)) (Walk.gd _ rfl rfl rfl (fun h=>BA rfl hgc (A1 rfl h) (h2 p mp x mx) ⟨AW (A1 rfl h) (Imp.ref_pref _),AW (A1 rfl h) (Imp.ref_pref _),trivial⟩) (Walk.gd _ rfl rfl rfl (fun h=>C1 rfl (A1 rfl h)) (Walk.gd _ rfl rfl rfl (fun h=>AJ rfl (A1 rfl h) (fun hb=>A1 rfl (gb h hb))) (A3 rfl rfl rfl (GO rfl (kn rfl) (fun hb=>A1 rfl hb)) .nil)))))))))))))))))))))) ?_
  try refine A2 ?_
  refine AE rfl (fun h3=>?_) (fun h3=>?_)
  ·have e:BJ ok ah none l=false:=by
    simp only[Bool.or_eq_true,Bool.and_eq_true,Bool.not_eq_true',decide_eq_true_eq]at h3
    rcases h3 with h3 | h3
    ·exact DF hx hw (.inl h3)
    ·exact DF hx hw (.inr ⟨p,by rw[hpo,if_neg (by omega)],h3.2⟩)
   try refine A2 ?_
   refine A0 (AD rfl rfl rfl rfl rfl .nil) ?_
   try refine A2 ?_
   exact A7 rfl rfl (.tmp (kn rfl) (.nil)) (AL e.symm) rfl
  simp only[Bool.or_eq_false_iff,Bool.and_eq_false_iff,Bool.not_eq_false',decide_eq_false_iff_not]at h3
  have hw2:=FX hx hw h3.1 (fun p' hp'=>by
   rw[hpo]at hp'
   split at hp'
   ·cases hp'
   ·cases hp'
    rcases h3.2 with h4 | h4
    ·omega
    ·exact h4)
  try refine A2 ?_
  refine A0 (A3 rfl rfl rfl (A9 rfl (kn rfl) (kn rfl) (AM (by first | omega | (dsimp only;omega)))) (A8 rfl rfl rfl rfl rfl .nil)) ?_
  try refine A2 ?_
  refine AZ ⟨k+1,by omega,hw2⟩ (by dsimp only;omega) (fun K=>AP ⟨s_t,s_t,s_t,s_t,s_t,trivial⟩ trivial trivial)
 have e:BJ ok ah none l=true:=GW (by have:=of_decide_eq_false h;omega) hw
 try refine A2 ?_
 refine A0 (AD rfl rfl rfl rfl rfl .nil) ?_
 try refine A2 ?_
 exact A7 rfl rfl (.tmp (kn rfl) (.nil)) (AL e.symm) rfl
theorem MT(f g:FuncId)(hfc:AT Try.prog f=true)(hgc:AT Try.prog g=true)(l:List ((Int×Int×Vl)×Ed))(hl:l.length<=80)(ok:(Int×Int×Vl)×Ed->Bool)(ah:(Int×Int×Vl)×Ed->(Int×Int×Vl)×Ed->Bool)(h1:∀ x∈l,EF Try.prog [] f [pP (esd x)] (.part (tP (ok x))))(h2:∀ x∈l,∀ y∈l,EF Try.prog [] g [pP (esd x),pP (esd y)] (.part (tP (ah x y)))):
  EF Try.prog [] 40 [.one (.row 30 l.length (l.flatMap D7)),fP f,fP g] (.part (tP (BJ ok ah none l))):=by
 refine AF 36 Try.func40 rfl rfl rfl fun w D=>?_
 try refine A2 ?_
 refine A0 (AD rfl rfl rfl rfl rfl .nil) ?_
 try refine A2 ?_
 refine A0 (A8 rfl rfl rfl rfl rfl (A3 rfl rfl rfl (AS rfl (kn rfl) sle_32) (A8 rfl rfl rfl rfl rfl .nil))) ?_
 try refine A2 ?_
 refine BC (ι:={ k:Nat // k<=l.length/\BJ ok ah none l=BJ ok ah (CP l k) (l.drop k) })
  (fun k=>[(0,.part (.one (.row 30 l.length (l.flatMap D7)))),(1,.part (fP f)),(2,.part (fP g)),(9,.is (.int .i64 (l.length:Int))),(10,.is (.int .i64 (k.1:Int)))])
  (fun _=>[]) (fun _=>[]) (fun k=>l.length-k.1) ⟨0,by omega,rfl⟩
  (fun K=>AP ⟨s_t,s_t,s_t,s_t,s_t,trivial⟩ trivial trivial) ?_
 rintro⟨k,hk,hw⟩
 dsimp only at hk hw ⊢
 try refine A2 ?_
 refine A0 (A3 rfl rfl rfl (A9 rfl (kn rfl) (kn rfl) BE) .nil) ?_
 try refine A2 ?_
 refine AE rfl (fun h=>?_) (fun h=>?_)
 ·have hlt:k<l.length:=by have:=of_decide_eq_true h;omega
  obtain⟨x,hx⟩:∃ x,l[k]?=some x:=⟨_,List.getElem?_eq_getElem hlt⟩
  obtain⟨p,hp⟩:=J4 hlt
  have mx:=List.mem_of_getElem? hx
  have mp:=List.mem_of_getElem? hp
  have hpo:=H9 hp
  try refine A2 ?_
  refine A0 (A8 rfl rfl rfl rfl rfl (AD rfl rfl rfl rfl rfl .nil)) ?_
  try refine A2 ?_
  refine BO C0 (by kernel_rfl) (A8 rfl rfl rfl rfl rfl (A8 rfl rfl rfl rfl rfl (A8 rfl rfl rfl rfl rfl (A3 rfl rfl rfl (AO rfl (kn rfl) (kn rfl) (by omega) hx CD sle_32 esz_32 (CK x)) (A3 rfl rfl rfl (BA rfl hfc (kn rfl) (h1 x mx) ⟨AW (kn rfl) (Imp.ref_pref _),trivial⟩) (A3 rfl rfl rfl (C1 rfl (kn rfl)) (A8 rfl rfl rfl rfl rfl (Walk.gd _ rfl rfl rfl (fun h=>AH rfl (kn rfl)) (Walk.gd _ rfl rfl rfl (fun h=>A9 rfl (A1 rfl h) (kn rfl) DG) (Walk.gd _ rfl rfl rfl (fun h=>AH rfl (A1 rfl h)) (Walk.gd _ rfl rfl rfl (fun h=>AH rfl (kn rfl)) (Walk.gd _ rfl rfl rfl (fun h=>AH rfl (kn rfl)) (Walk.gd _ rfl rfl rfl (fun h=>AH rfl (kn rfl)) (Walk.gd _ rfl rfl rfl (fun h=>A9 rfl (A1 rfl h) (kn rfl) (DO (by first | omega | (dsimp only;omega)))) (Walk.gd _ rfl rfl rfl (fun h=>AO rfl (A1 rfl h) (A1 rfl h) (PT h) hp CD sle_32 esz_32 (CK p)) (Walk.gd _ rfl rfl rfl (fun h=>AH rfl (kn rfl)) (Walk.gd _ rfl rfl rfl (fun h=>AH rfl (kn rfl)) (Walk.gd _ rfl rfl rfl (fun h=>AO rfl (A1 rfl h) (A1 rfl h) (by omega) hx CD sle_32 esz_32 (CK x)) (Walk.gd _ rfl rfl rfl (fun h=>BA rfl hgc (A1 rfl h) (h2 p mp x mx) ⟨AW (A1 rfl h) (Imp.ref_pref _),AW (A1 rfl h) (Imp.ref_pref _),trivial⟩) (Walk.gd _ rfl rfl rfl (fun h=>C1 rfl (A1 rfl h)) (Walk.gd _ rfl rfl rfl (fun h=>AJ rfl (A1 rfl h) (fun hb=>A1 rfl (gb h hb))) (A3 rfl rfl rfl (GO rfl (kn rfl) (fun hb=>A1 rfl hb)) .nil)))))))))))))))))))))) ?_
  try refine A2 ?_
  refine AE rfl (fun h3=>?_) (fun h3=>?_)
  ·have e:BJ ok ah none l=false:=by
    simp only[Bool.or_eq_true,Bool.and_eq_true,Bool.not_eq_true',decide_eq_true_eq]at h3
    rcases h3 with h3 | h3
    ·exact DF hx hw (.inl h3)
    ·exact DF hx hw (.inr ⟨p,by rw[hpo,if_neg (by omega)],h3.2⟩)
   try refine A2 ?_
   refine A0 (AD rfl rfl rfl rfl rfl .nil) ?_
   try refine A2 ?_
   exact A7 rfl rfl (.tmp (kn rfl) (.nil)) (AL e.symm) rfl
  simp only[Bool.or_eq_false_iff,Bool.and_eq_false_iff,Bool.not_eq_false',decide_eq_false_iff_not]at h3
  have hw2:=FX hx hw h3.1 (fun p' hp'=>by
   rw[hpo]at hp'
   split at hp'
   ·cases hp'
   ·cases hp'
    rcases h3.2 with h4 | h4
    ·omega
    ·exact h4)
  try refine A2 ?_
  refine A0 (A3 rfl rfl rfl (A9 rfl (kn rfl) (kn rfl) (AM (by first | omega | (dsimp only;omega)))) (A8 rfl rfl rfl rfl rfl .nil)) ?_
  try refine A2 ?_
  refine AZ ⟨k+1,by omega,hw2⟩ (by dsimp only;omega) (fun K=>AP ⟨s_t,s_t,s_t,s_t,s_t,trivial⟩ trivial trivial)
 have e:BJ ok ah none l=true:=GW (by have:=of_decide_eq_false h;omega) hw
 try refine A2 ?_
 refine A0 (AD rfl rfl rfl rfl rfl .nil) ?_
 try refine A2 ?_
 exact A7 rfl rfl (.tmp (kn rfl) (.nil)) (AL e.symm) rfl
theorem NC(f g:FuncId)(hfc:AT Try.prog f=true)(hgc:AT Try.prog g=true)(l:List (Vl×Ed))(hl:l.length<=80)(ok:Vl×Ed->Bool)(ah:Vl×Ed->Vl×Ed->Bool)(h1:∀ x∈l,EF Try.prog [] f [pP (ekd x)] (.part (tP (ok x))))(h2:∀ x∈l,∀ y∈l,EF Try.prog [] g [pP (ekd x),pP (ekd y)] (.part (tP (ah x y)))):
  EF Try.prog [] 43 [.one (.row 28 l.length (l.flatMap DY)),fP f,fP g] (.part (tP (BJ ok ah none l))):=by
 refine AF 36 Try.func43 rfl rfl rfl fun w D=>?_
 try refine A2 ?_
 refine A0 (AD rfl rfl rfl rfl rfl .nil) ?_
 try refine A2 ?_
 refine A0 (A8 rfl rfl rfl rfl rfl (A3 rfl rfl rfl (AS rfl (kn rfl) sle_33) (A8 rfl rfl rfl rfl rfl .nil))) ?_
 try refine A2 ?_
 refine BC (ι:={ k:Nat // k<=l.length/\BJ ok ah none l=BJ ok ah (CP l k) (l.drop k) })
  (fun k=>[(0,.part (.one (.row 28 l.length (l.flatMap DY)))),(1,.part (fP f)),(2,.part (fP g)),(9,.is (.int .i64 (l.length:Int))),(10,.is (.int .i64 (k.1:Int)))])
  (fun _=>[]) (fun _=>[]) (fun k=>l.length-k.1) ⟨0,by omega,rfl⟩
  (fun K=>AP ⟨s_t,s_t,s_t,s_t,s_t,trivial⟩ trivial trivial) ?_
 rintro⟨k,hk,hw⟩
 dsimp only at hk hw ⊢
 try refine A2 ?_
 refine A0 (A3 rfl rfl rfl (A9 rfl (kn rfl) (kn rfl) BE) .nil) ?_
 try refine A2 ?_
 refine AE rfl (fun h=>?_) (fun h=>?_)
 ·have hlt:k<l.length:=by have:=of_decide_eq_true h;omega
  obtain⟨x,hx⟩:∃ x,l[k]?=some x:=⟨_,List.getElem?_eq_getElem hlt⟩
  obtain⟨p,hp⟩:=J4 hlt
  have mx:=List.mem_of_getElem? hx
  have mp:=List.mem_of_getElem? hp
  have hpo:=H9 hp
  try refine A2 ?_
  refine A0 (A8 rfl rfl rfl rfl rfl (AD rfl rfl rfl rfl rfl .nil)) ?_
  try refine A2 ?_
  refine BO C0 (by kernel_rfl) (A8 rfl rfl rfl rfl rfl (A8 rfl rfl rfl rfl rfl (A8 rfl rfl rfl rfl rfl (A3 rfl rfl rfl (AO rfl (kn rfl) (kn rfl) (by omega) hx CU sle_33 esz_33 (D2 x)) (A3 rfl rfl rfl (BA rfl hfc (kn rfl) (h1 x mx) ⟨AW (kn rfl) (Imp.ref_pref _),trivial⟩) (A3 rfl rfl rfl (C1 rfl (kn rfl)) (A8 rfl rfl rfl rfl rfl (Walk.gd _ rfl rfl rfl (fun h=>AH rfl (kn rfl)) (Walk.gd _ rfl rfl rfl (fun h=>A9 rfl (A1 rfl h) (kn rfl) DG) (Walk.gd _ rfl rfl rfl (fun h=>AH rfl (A1 rfl h)) (Walk.gd _ rfl rfl rfl (fun h=>AH rfl (kn rfl)) (Walk.gd _ rfl rfl rfl (fun h=>AH rfl (kn rfl)) (Walk.gd _ rfl rfl rfl (fun h=>AH rfl (kn rfl)) (Walk.gd _ rfl rfl rfl (fun h=>A9 rfl (A1 rfl h) (kn rfl) (DO (by first | omega | (dsimp only;omega)))) (Walk.gd _ rfl rfl rfl (fun h=>AO rfl (A1 rfl h) (A1 rfl h) (PT h) hp CU sle_33 esz_33 (D2 p)) (Walk.gd _ rfl rfl rfl (fun h=>AH rfl (kn rfl)) (Walk.gd _ rfl rfl rfl (fun h=>AH rfl (kn rfl)) (Walk.gd _ rfl rfl rfl (fun h=>AO rfl (A1 rfl h) (A1 rfl h) (by omega) hx CU sle_33 esz_33 (D2 x)) (Walk.gd _ rfl rfl rfl (fun h=>BA rfl hgc (A1 rfl h) (h2 p mp x mx) ⟨AW (A1 rfl h) (Imp.ref_pref _),AW (A1 rfl h) (Imp.ref_pref _),trivial⟩) (Walk.gd _ rfl rfl rfl (fun h=>C1 rfl (A1 rfl h)) (Walk.gd _ rfl rfl rfl (fun h=>AJ rfl (A1 rfl h) (fun hb=>A1 rfl (gb h hb))) (A3 rfl rfl rfl (GO rfl (kn rfl) (fun hb=>A1 rfl hb)) .nil)))))))))))))))))))))) ?_
  try refine A2 ?_
  refine AE rfl (fun h3=>?_) (fun h3=>?_)
  ·have e:BJ ok ah none l=false:=by
    simp only[Bool.or_eq_true,Bool.and_eq_true,Bool.not_eq_true',decide_eq_true_eq]at h3
    rcases h3 with h3 | h3
    ·exact DF hx hw (.inl h3)
    ·exact DF hx hw (.inr ⟨p,by rw[hpo,if_neg (by omega)],h3.2⟩)
   try refine A2 ?_
   refine A0 (AD rfl rfl rfl rfl rfl .nil) ?_
   try refine A2 ?_
   exact A7 rfl rfl (.tmp (kn rfl) (.nil)) (AL e.symm) rfl
  simp only[Bool.or_eq_false_iff,Bool.and_eq_false_iff,Bool.not_eq_false',decide_eq_false_iff_not]at h3
  have hw2:=FX hx hw h3.1 (fun p' hp'=>by
   rw[hpo]at hp'
   split at hp'
   ·cases hp'
   ·cases hp'
    rcases h3.2 with h4 | h4
    ·omega
    ·exact h4)
  try refine A2 ?_
  refine A0 (A3 rfl rfl rfl (A9 rfl (kn rfl) (kn rfl) (AM (by first | omega | (dsimp only;omega)))) (A8 rfl rfl rfl rfl rfl .nil)) ?_
  try refine A2 ?_
  refine AZ ⟨k+1,by omega,hw2⟩ (by dsimp only;omega) (fun K=>AP ⟨s_t,s_t,s_t,s_t,s_t,trivial⟩ trivial trivial)
 have e:BJ ok ah none l=true:=GW (by have:=of_decide_eq_false h;omega) hw
 try refine A2 ?_
 refine A0 (AD rfl rfl rfl rfl rfl .nil) ?_
 try refine A2 ?_
 exact A7 rfl rfl (.tmp (kn rfl) (.nil)) (AL e.symm) rfl
theorem PB{α:Type}{p:α->Bool}{l:List α}{k:Nat}(hk:l.length<=k)(h:l.any p=(l.drop k).any p):l.any p=false:=by
 rw[h,List.drop_eq_nil_of_le hk]
 rfl
theorem NI{α:Type}{p:α->Bool}{l:List α}{k:Nat}{x:α}(hx:l[k]?=some x)(h:l.any p=(l.drop k).any p):l.any p=(p x||(l.drop (k+1)).any p):=by
 rw[h,B8 hx,List.any_cons]
theorem PP(f:FuncId)(hfc:AT Try.prog f=true)(l:List ((Int×Int×Vl)×Ed))(hl:l.length<=80)(p:(Int×Int×Vl)×Ed->Bool)(h1:∀ x∈l,EF Try.prog [] f [pP (esd x)] (.part (tP (p x)))):EF Try.prog [] 38 [.one (.row 30 l.length (l.flatMap D7)),fP f] (.part (tP (l.any p))):=by
 refine AF 17 Try.func38 rfl rfl rfl fun w D=>?_
 try refine A2 ?_
 refine A0 (AD rfl rfl rfl rfl rfl .nil) ?_
 try refine A2 ?_
 refine A0 (A8 rfl rfl rfl rfl rfl (A3 rfl rfl rfl (AS rfl (kn rfl) sle_32) (A8 rfl rfl rfl rfl rfl .nil))) ?_
 try refine A2 ?_
 refine BC (ι:={ k:Nat // k<=l.length/\l.any p=(l.drop k).any p })
  (fun k=>[(0,.part (.one (.row 30 l.length (l.flatMap D7)))),(1,.part (fP f)),(7,.is (.int .i64 (l.length:Int))),(8,.is (.int .i64 (k.1:Int)))])
  (fun _=>[]) (fun _=>[]) (fun k=>l.length-k.1) ⟨0,by omega,rfl⟩
  (fun K=>AP ⟨s_t,s_t,s_t,s_t,trivial⟩ trivial trivial) ?_
 rintro⟨k,hk,hw⟩
 dsimp only at hk hw ⊢
 try refine A2 ?_
 refine A0 (A3 rfl rfl rfl (A9 rfl (kn rfl) (kn rfl) BE) .nil) ?_
 try refine A2 ?_
 refine AE rfl (fun h=>?_) (fun h=>?_)
 ·have hlt:k<l.length:=by have:=of_decide_eq_true h;omega
  obtain⟨x,hx⟩:∃ x,l[k]?=some x:=⟨_,List.getElem?_eq_getElem hlt⟩
  have hs:=NI hx hw
  try refine A2 ?_
  refine A0 (A8 rfl rfl rfl rfl rfl (AD rfl rfl rfl rfl rfl .nil)) ?_
  try refine A2 ?_
  refine A0 (A8 rfl rfl rfl rfl rfl (A8 rfl rfl rfl rfl rfl (A8 rfl rfl rfl rfl rfl (A3 rfl rfl rfl (AO rfl (kn rfl) (kn rfl) (by omega) hx CD sle_32 esz_32 (CK x)) (A3 rfl rfl rfl (BA rfl hfc (kn rfl) (h1 x (List.mem_of_getElem? hx)) ⟨AW (kn rfl) (Imp.ref_pref _),trivial⟩) .nil))))) ?_
  try refine A2 ?_
  refine AE rfl (fun h3=>?_) (fun h3=>?_)
  ·have e:l.any p=true:=by rw[hs,h3];rfl
   try refine A2 ?_
   refine A0 (AD rfl rfl rfl rfl rfl .nil) ?_
   try refine A2 ?_
   exact A7 rfl rfl (.tmp (kn rfl) (.nil)) (AL e.symm) rfl
  rw[h3,Bool.false_or]at hs
  try refine A2 ?_
  refine A0 (A3 rfl rfl rfl (A9 rfl (kn rfl) (kn rfl) (AM (by first | omega | (dsimp only;omega)))) (A8 rfl rfl rfl rfl rfl .nil)) ?_
  try refine A2 ?_
  refine AZ ⟨k+1,by omega,hs⟩ (by dsimp only;omega) (fun K=>AP ⟨s_t,s_t,s_t,s_t,trivial⟩ trivial trivial)
 have e:l.any p=false:=PB (by have:=of_decide_eq_false h;omega) hw
 try refine A2 ?_
 refine A0 (AD rfl rfl rfl rfl rfl .nil) ?_
 try refine A2 ?_
 exact A7 rfl rfl (.tmp (kn rfl) (.nil)) (AL e.symm) rfl
theorem LP(f:FuncId)(hfc:AT Try.prog f=true)(l m:List (Int×Ed))(hl:l.length<=80)(hm:m.length<=80)(p:Int×Ed->Int×Ed->Bool)(h1:∀ x∈l,∀ y∈m,EF Try.prog [] f [pP (efd x),pP (efd y)] (.part (tP (p x y)))):
  EF Try.prog [] 55 [.one (.row 22 l.length (l.flatMap DV)),.one (.row 22 m.length (m.flatMap DV)),fP f] (.part (tP (BP p l m))):=by
 refine AF 28 Try.func55 rfl rfl rfl fun w D=>?_
 try refine A2 ?_
 refine A0 (AD rfl rfl rfl rfl rfl .nil) ?_
 try refine A2 ?_
 refine A0 (A8 rfl rfl rfl rfl rfl (A3 rfl rfl rfl (AS rfl (kn rfl) sle_31) (A8 rfl rfl rfl rfl rfl (A3 rfl rfl rfl (AS rfl (kn rfl) sle_31) (A3 rfl rfl rfl (A9 rfl (kn rfl) (kn rfl) C8) .nil))))) ?_
 try refine A2 ?_
 refine AE rfl (fun h=>?_) (fun h=>?_)
 ·have e:BP p l m=false:=FJ (by
   simp only[Bool.not_eq_true',decide_eq_false_iff_not]at h
   omega)
  try refine A2 ?_
  refine A0 (AD rfl rfl rfl rfl rfl .nil) ?_
  try refine A2 ?_
  exact A7 rfl rfl (.tmp (kn rfl) (.nil)) (AL e.symm) rfl
 have hlm:l.length=m.length:=by
  simp only[Bool.not_eq_false',decide_eq_true_eq]at h
  omega
 clear h
 try refine A2 ?_
 refine A0 (A8 rfl rfl rfl rfl rfl (A3 rfl rfl rfl (AS rfl (kn rfl) sle_31) (A8 rfl rfl rfl rfl rfl .nil))) ?_
 try refine A2 ?_
 refine BC (ι:={ k:Nat // k<=l.length/\BP p l m=BP p (l.drop k) (m.drop k) })
  (fun k=>[(0,.part (.one (.row 22 l.length (l.flatMap DV)))),(1,.part (.one (.row 22 m.length (m.flatMap DV)))),(2,.part (fP f)),(14,.is (.int .i64 (l.length:Int))),(15,.is (.int .i64 (k.1:Int)))])
  (fun _=>[]) (fun _=>[]) (fun k=>l.length-k.1) ⟨0,by omega,rfl⟩
  (fun K=>AP ⟨s_t,s_t,s_t,s_t,s_t,trivial⟩ trivial trivial) ?_
 rintro⟨k,hk,hw⟩
 dsimp only at hk hw ⊢
 try refine A2 ?_
 refine A0 (A3 rfl rfl rfl (A9 rfl (kn rfl) (kn rfl) BE) .nil) ?_
 try refine A2 ?_
 refine AE rfl (fun h=>?_) (fun h=>?_)
 ·have hlt:k<l.length:=by have:=of_decide_eq_true h;omega
  obtain⟨x,hx⟩:∃ x,l[k]?=some x:=⟨_,List.getElem?_eq_getElem hlt⟩
  obtain⟨y,hy⟩:∃ y,m[k]?=some y:=⟨_,List.getElem?_eq_getElem (by omega)⟩
  have hs:=FZ hx hy hw
  try refine A2 ?_
  refine A0 (A8 rfl rfl rfl rfl rfl (AD rfl rfl rfl rfl rfl .nil)) ?_
  try refine A2 ?_
  refine BO C0 (by kernel_rfl) (A8 rfl rfl rfl rfl rfl (A8 rfl rfl rfl rfl rfl (A8 rfl rfl rfl rfl rfl (A3 rfl rfl rfl (AO rfl (kn rfl) (kn rfl) (by omega) hx CT sle_31 esz_31 (CZ x)) (A8 rfl rfl rfl rfl rfl (A8 rfl rfl rfl rfl rfl (A3 rfl rfl rfl (AO rfl (kn rfl) (kn rfl) (by omega) hy CT sle_31 esz_31 (CZ y)) (A3 rfl rfl rfl (BA rfl hfc (kn rfl) (h1 x (List.mem_of_getElem? hx) y (List.mem_of_getElem? hy)) ⟨AW (kn rfl) (Imp.ref_pref _),AW (kn rfl) (Imp.ref_pref _),trivial⟩) (A3 rfl rfl rfl (C1 rfl (kn rfl)) .nil))))))))) ?_
  try refine A2 ?_
  refine AE rfl (fun h3=>?_) (fun h3=>?_)
  ·have e:BP p l m=false:=by rw[hs,KQ h3];rfl
   try refine A2 ?_
   refine A0 (AD rfl rfl rfl rfl rfl .nil) ?_
   try refine A2 ?_
   exact A7 rfl rfl (.tmp (kn rfl) (.nil)) (AL e.symm) rfl
  rw[K4 h3,Bool.true_and]at hs
  try refine A2 ?_
  refine A0 (A3 rfl rfl rfl (A9 rfl (kn rfl) (kn rfl) (AM (by first | omega | (dsimp only;omega)))) (A8 rfl rfl rfl rfl rfl .nil)) ?_
  try refine A2 ?_
  refine AZ ⟨k+1,by omega,hs⟩ (by dsimp only;omega) (fun K=>AP ⟨s_t,s_t,s_t,s_t,s_t,trivial⟩ trivial trivial)
 have e:BP p l m=true:=H6 hlm (by have:=of_decide_eq_false h;omega) hw
 try refine A2 ?_
 refine A0 (AD rfl rfl rfl rfl rfl .nil) ?_
 try refine A2 ?_
 exact A7 rfl rfl (.tmp (kn rfl) (.nil)) (AL e.symm) rfl
theorem LO(f:FuncId)(hfc:AT Try.prog f=true)(l m:List ((Int×Int×Vl)×Ed))(hl:l.length<=80)(hm:m.length<=80)(p:(Int×Int×Vl)×Ed->(Int×Int×Vl)×Ed->Bool)(h1:∀ x∈l,∀ y∈m,EF Try.prog [] f [pP (esd x),pP (esd y)] (.part (tP (p x y)))):
  EF Try.prog [] 57 [.one (.row 30 l.length (l.flatMap D7)),.one (.row 30 m.length (m.flatMap D7)),fP f] (.part (tP (BP p l m))):=by
 refine AF 28 Try.func57 rfl rfl rfl fun w D=>?_
 try refine A2 ?_
 refine A0 (AD rfl rfl rfl rfl rfl .nil) ?_
 try refine A2 ?_
 refine A0 (A8 rfl rfl rfl rfl rfl (A3 rfl rfl rfl (AS rfl (kn rfl) sle_32) (A8 rfl rfl rfl rfl rfl (A3 rfl rfl rfl (AS rfl (kn rfl) sle_32) (A3 rfl rfl rfl (A9 rfl (kn rfl) (kn rfl) C8) .nil))))) ?_
 try refine A2 ?_
 refine AE rfl (fun h=>?_) (fun h=>?_)
 ·have e:BP p l m=false:=FJ (by
   simp only[Bool.not_eq_true',decide_eq_false_iff_not]at h
   omega)
  try refine A2 ?_
  refine A0 (AD rfl rfl rfl rfl rfl .nil) ?_
  try refine A2 ?_
  exact A7 rfl rfl (.tmp (kn rfl) (.nil)) (AL e.symm) rfl
 have hlm:l.length=m.length:=by
  simp only[Bool.not_eq_false',decide_eq_true_eq]at h
  omega
 clear h
 try refine A2 ?_
 refine A0 (A8 rfl rfl rfl rfl rfl (A3 rfl rfl rfl (AS rfl (kn rfl) sle_32) (A8 rfl rfl rfl rfl rfl .nil))) ?_
 try refine A2 ?_
 refine BC (ι:={ k:Nat // k<=l.length/\BP p l m=BP p (l.drop k) (m.drop k) })
  (fun k=>[(0,.part (.one (.row 30 l.length (l.flatMap D7)))),(1,.part (.one (.row 30 m.length (m.flatMap D7)))),(2,.part (fP f)),(14,.is (.int .i64 (l.length:Int))),(15,.is (.int .i64 (k.1:Int)))])
  (fun _=>[]) (fun _=>[]) (fun k=>l.length-k.1) ⟨0,by omega,rfl⟩
  (fun K=>AP ⟨s_t,s_t,s_t,s_t,s_t,trivial⟩ trivial trivial) ?_
 rintro⟨k,hk,hw⟩
 dsimp only at hk hw ⊢
 try refine A2 ?_
 refine A0 (A3 rfl rfl rfl (A9 rfl (kn rfl) (kn rfl) BE) .nil) ?_
 try refine A2 ?_
 refine AE rfl (fun h=>?_) (fun h=>?_)
 ·have hlt:k<l.length:=by have:=of_decide_eq_true h;omega
  obtain⟨x,hx⟩:∃ x,l[k]?=some x:=⟨_,List.getElem?_eq_getElem hlt⟩
  obtain⟨y,hy⟩:∃ y,m[k]?=some y:=⟨_,List.getElem?_eq_getElem (by omega)⟩
  have hs:=FZ hx hy hw
  try refine A2 ?_
  refine A0 (A8 rfl rfl rfl rfl rfl (AD rfl rfl rfl rfl rfl .nil)) ?_
  try refine A2 ?_
  refine BO C0 (by kernel_rfl) (A8 rfl rfl rfl rfl rfl (A8 rfl rfl rfl rfl rfl (A8 rfl rfl rfl rfl rfl (A3 rfl rfl rfl (AO rfl (kn rfl) (kn rfl) (by omega) hx CD sle_32 esz_32 (CK x)) (A8 rfl rfl rfl rfl rfl (A8 rfl rfl rfl rfl rfl (A3 rfl rfl rfl (AO rfl (kn rfl) (kn rfl) (by omega) hy CD sle_32 esz_32 (CK y)) (A3 rfl rfl rfl (BA rfl hfc (kn rfl) (h1 x (List.mem_of_getElem? hx) y (List.mem_of_getElem? hy)) ⟨AW (kn rfl) (Imp.ref_pref _),AW (kn rfl) (Imp.ref_pref _),trivial⟩) (A3 rfl rfl rfl (C1 rfl (kn rfl)) .nil))))))))) ?_
  try refine A2 ?_
  refine AE rfl (fun h3=>?_) (fun h3=>?_)
  ·have e:BP p l m=false:=by rw[hs,KQ h3];rfl
   try refine A2 ?_
   refine A0 (AD rfl rfl rfl rfl rfl .nil) ?_
   try refine A2 ?_
   exact A7 rfl rfl (.tmp (kn rfl) (.nil)) (AL e.symm) rfl
  rw[K4 h3,Bool.true_and]at hs
  try refine A2 ?_
  refine A0 (A3 rfl rfl rfl (A9 rfl (kn rfl) (kn rfl) (AM (by first | omega | (dsimp only;omega)))) (A8 rfl rfl rfl rfl rfl .nil)) ?_
  try refine A2 ?_
  refine AZ ⟨k+1,by omega,hs⟩ (by dsimp only;omega) (fun K=>AP ⟨s_t,s_t,s_t,s_t,s_t,trivial⟩ trivial trivial)
 have e:BP p l m=true:=H6 hlm (by have:=of_decide_eq_false h;omega) hw
 try refine A2 ?_
 refine A0 (AD rfl rfl rfl rfl rfl .nil) ?_
 try refine A2 ?_
 exact A7 rfl rfl (.tmp (kn rfl) (.nil)) (AL e.symm) rfl
theorem LK(f:FuncId)(hfc:AT Try.prog f=true)(l m:List (Vl×Ed))(hl:l.length<=80)(hm:m.length<=80)(p:Vl×Ed->Vl×Ed->Bool)(h1:∀ x∈l,∀ y∈m,EF Try.prog [] f [pP (ekd x),pP (ekd y)] (.part (tP (p x y)))):
  EF Try.prog [] 59 [.one (.row 28 l.length (l.flatMap DY)),.one (.row 28 m.length (m.flatMap DY)),fP f] (.part (tP (BP p l m))):=by
 refine AF 28 Try.func59 rfl rfl rfl fun w D=>?_
 try refine A2 ?_
 refine A0 (AD rfl rfl rfl rfl rfl .nil) ?_
 try refine A2 ?_
 refine A0 (A8 rfl rfl rfl rfl rfl (A3 rfl rfl rfl (AS rfl (kn rfl) sle_33) (A8 rfl rfl rfl rfl rfl (A3 rfl rfl rfl (AS rfl (kn rfl) sle_33) (A3 rfl rfl rfl (A9 rfl (kn rfl) (kn rfl) C8) .nil))))) ?_
 try refine A2 ?_
 refine AE rfl (fun h=>?_) (fun h=>?_)
 ·have e:BP p l m=false:=FJ (by
   simp only[Bool.not_eq_true',decide_eq_false_iff_not]at h
   omega)
  try refine A2 ?_
  refine A0 (AD rfl rfl rfl rfl rfl .nil) ?_
  try refine A2 ?_
  exact A7 rfl rfl (.tmp (kn rfl) (.nil)) (AL e.symm) rfl
 have hlm:l.length=m.length:=by
  simp only[Bool.not_eq_false',decide_eq_true_eq]at h
  omega
 clear h
 try refine A2 ?_
 refine A0 (A8 rfl rfl rfl rfl rfl (A3 rfl rfl rfl (AS rfl (kn rfl) sle_33) (A8 rfl rfl rfl rfl rfl .nil))) ?_
 try refine A2 ?_
 refine BC (ι:={ k:Nat // k<=l.length/\BP p l m=BP p (l.drop k) (m.drop k) })
  (fun k=>[(0,.part (.one (.row 28 l.length (l.flatMap DY)))),(1,.part (.one (.row 28 m.length (m.flatMap DY)))),(2,.part (fP f)),(14,.is (.int .i64 (l.length:Int))),(15,.is (.int .i64 (k.1:Int)))])
  (fun _=>[]) (fun _=>[]) (fun k=>l.length-k.1) ⟨0,by omega,rfl⟩
  (fun K=>AP ⟨s_t,s_t,s_t,s_t,s_t,trivial⟩ trivial trivial) ?_
 rintro⟨k,hk,hw⟩
 dsimp only at hk hw ⊢
 try refine A2 ?_
 refine A0 (A3 rfl rfl rfl (A9 rfl (kn rfl) (kn rfl) BE) .nil) ?_
 try refine A2 ?_
 refine AE rfl (fun h=>?_) (fun h=>?_)
 ·have hlt:k<l.length:=by have:=of_decide_eq_true h;omega
  obtain⟨x,hx⟩:∃ x,l[k]?=some x:=⟨_,List.getElem?_eq_getElem hlt⟩
  obtain⟨y,hy⟩:∃ y,m[k]?=some y:=⟨_,List.getElem?_eq_getElem (by omega)⟩
  have hs:=FZ hx hy hw
  try refine A2 ?_
  refine A0 (A8 rfl rfl rfl rfl rfl (AD rfl rfl rfl rfl rfl .nil)) ?_
  try refine A2 ?_
  refine BO C0 (by kernel_rfl) (A8 rfl rfl rfl rfl rfl (A8 rfl rfl rfl rfl rfl (A8 rfl rfl rfl rfl rfl (A3 rfl rfl rfl (AO rfl (kn rfl) (kn rfl) (by omega) hx CU sle_33 esz_33 (D2 x)) (A8 rfl rfl rfl rfl rfl (A8 rfl rfl rfl rfl rfl (A3 rfl rfl rfl (AO rfl (kn rfl) (kn rfl) (by omega) hy CU sle_33 esz_33 (D2 y)) (A3 rfl rfl rfl (BA rfl hfc (kn rfl) (h1 x (List.mem_of_getElem? hx) y (List.mem_of_getElem? hy)) ⟨AW (kn rfl) (Imp.ref_pref _),AW (kn rfl) (Imp.ref_pref _),trivial⟩) (A3 rfl rfl rfl (C1 rfl (kn rfl)) .nil))))))))) ?_
  try refine A2 ?_
  refine AE rfl (fun h3=>?_) (fun h3=>?_)
  ·have e:BP p l m=false:=by rw[hs,KQ h3];rfl
   try refine A2 ?_
   refine A0 (AD rfl rfl rfl rfl rfl .nil) ?_
   try refine A2 ?_
   exact A7 rfl rfl (.tmp (kn rfl) (.nil)) (AL e.symm) rfl
  rw[K4 h3,Bool.true_and]at hs
  try refine A2 ?_
  refine A0 (A3 rfl rfl rfl (A9 rfl (kn rfl) (kn rfl) (AM (by first | omega | (dsimp only;omega)))) (A8 rfl rfl rfl rfl rfl .nil)) ?_
  try refine A2 ?_
  refine AZ ⟨k+1,by omega,hs⟩ (by dsimp only;omega) (fun K=>AP ⟨s_t,s_t,s_t,s_t,s_t,trivial⟩ trivial trivial)
 have e:BP p l m=true:=H6 hlm (by have:=of_decide_eq_false h;omega) hw
 try refine A2 ?_
 refine A0 (AD rfl rfl rfl rfl rfl .nil) ?_
 try refine A2 ?_
 exact A7 rfl rfl (.tmp (kn rfl) (.nil)) (AL e.symm) rfl
theorem NQ(f:FuncId)(hfc:AT Try.prog f=true)(l:List (Int×Ed))(hl:l.length<=80)(g:Int×Ed->Nat)(hb:(l.map g).sum<=100000)(h1:∀ x∈l,EF Try.prog [] f [pP (efd x)] (.part (iP (g x)))):EF Try.prog [] 62 [.one (.row 22 l.length (l.flatMap DV)),fP f] (.part (iP ((l.map g).sum:Nat))):=by
 refine AF 21 Try.func62 rfl rfl rfl fun w D=>?_
 try refine A2 ?_
 refine A0 (AD rfl rfl rfl rfl rfl .nil) ?_
 try refine A2 ?_
 refine A0 (AD rfl rfl rfl rfl rfl .nil) ?_
 try refine A2 ?_
 refine A0 (A8 rfl rfl rfl rfl rfl (A3 rfl rfl rfl (AS rfl (kn rfl) sle_31) (A8 rfl rfl rfl rfl rfl .nil))) ?_
 try refine A2 ?_
 refine BC (ι:={ k:Nat // k<=l.length })
  (fun k=>[(0,.part (.one (.row 22 l.length (l.flatMap DV)))),(1,.part (fP f)),(5,.is (.int .i64 ((((l.take k.1).map g).sum:Nat):Int))),(8,.is (.int .i64 (l.length:Int))),(9,.is (.int .i64 (k.1:Int)))])
  (fun _=>[]) (fun _=>[]) (fun k=>l.length-k.1) ⟨0,by omega⟩
  (fun K=>AP ⟨s_t,s_t,⟨_,rfl,Imp.of_eq rfl⟩,s_t,s_t,trivial⟩ trivial trivial) ?_
 rintro⟨k,hk⟩
 dsimp only at hk ⊢
 try refine A2 ?_
 refine A0 (A3 rfl rfl rfl (A9 rfl (kn rfl) (kn rfl) BE) .nil) ?_
 try refine A2 ?_
 refine AE rfl (fun h=>?_) (fun h=>?_)
 ·have hlt:k<l.length:=by have:=of_decide_eq_true h;omega
  obtain⟨x,hx⟩:∃ x,l[k]?=some x:=⟨_,List.getElem?_eq_getElem hlt⟩
  have htk:=D8 (f:=g) hx
  have hle:=DN g l (k+1)
  try refine A2 ?_
  refine A0 (A8 rfl rfl rfl rfl rfl (AD rfl rfl rfl rfl rfl .nil)) ?_
  try refine A2 ?_
  refine A0 (A8 rfl rfl rfl rfl rfl (A8 rfl rfl rfl rfl rfl (A8 rfl rfl rfl rfl rfl (A8 rfl rfl rfl rfl rfl (A3 rfl rfl rfl (AO rfl (kn rfl) (kn rfl) (by omega) hx CT sle_31 esz_31 (CZ x)) (A3 rfl rfl rfl (BA rfl hfc (kn rfl) (h1 x (List.mem_of_getElem? hx)) ⟨AW (kn rfl) (Imp.ref_pref _),trivial⟩) (A3 rfl rfl rfl (A9 rfl (kn rfl) (kn rfl) (AM (by first | omega | (dsimp only;omega)))) (AD rfl rfl rfl rfl rfl .nil)))))))) ?_
  try refine A2 ?_
  try refine A2 ?_
  refine A0 (A3 rfl rfl rfl (A9 rfl (kn rfl) (kn rfl) (AM (by first | omega | (dsimp only;omega)))) (A8 rfl rfl rfl rfl rfl .nil)) ?_
  try refine A2 ?_
  refine AZ ⟨k+1,by omega⟩ (by dsimp only;omega) (fun K=>AP ⟨s_t,s_t,⟨_,rfl,Imp.of_eq (by rw[htk];rfl)⟩,s_t,s_t,trivial⟩ trivial trivial)
 obtain rfl:k=l.length:=by have:=of_decide_eq_false h;omega
 rw[List.take_length]
 try refine A2 ?_
 refine A0 (A8 rfl rfl rfl rfl rfl (AD rfl rfl rfl rfl rfl .nil)) ?_
 try refine A2 ?_
 exact A7 rfl rfl (.tmp (kn rfl) (.nil)) (Imp.of_eq rfl) rfl
theorem NH(f:FuncId)(hfc:AT Try.prog f=true)(l:List ((Int×Int×Vl)×Ed))(hl:l.length<=80)(g:(Int×Int×Vl)×Ed->Nat)(hb:(l.map g).sum<=100000)(h1:∀ x∈l,EF Try.prog [] f [pP (esd x)] (.part (iP (g x)))):EF Try.prog [] 64 [.one (.row 30 l.length (l.flatMap D7)),fP f] (.part (iP ((l.map g).sum:Nat))):=by
 refine AF 21 Try.func64 rfl rfl rfl fun w D=>?_
 try refine A2 ?_
 refine A0 (AD rfl rfl rfl rfl rfl .nil) ?_
 try refine A2 ?_
 refine A0 (AD rfl rfl rfl rfl rfl .nil) ?_
 try refine A2 ?_
 refine A0 (A8 rfl rfl rfl rfl rfl (A3 rfl rfl rfl (AS rfl (kn rfl) sle_32) (A8 rfl rfl rfl rfl rfl .nil))) ?_
 try refine A2 ?_
 refine BC (ι:={ k:Nat // k<=l.length })
  (fun k=>[(0,.part (.one (.row 30 l.length (l.flatMap D7)))),(1,.part (fP f)),(5,.is (.int .i64 ((((l.take k.1).map g).sum:Nat):Int))),(8,.is (.int .i64 (l.length:Int))),(9,.is (.int .i64 (k.1:Int)))])
  (fun _=>[]) (fun _=>[]) (fun k=>l.length-k.1) ⟨0,by omega⟩
  (fun K=>AP ⟨s_t,s_t,⟨_,rfl,Imp.of_eq rfl⟩,s_t,s_t,trivial⟩ trivial trivial) ?_
 rintro⟨k,hk⟩
 dsimp only at hk ⊢
 try refine A2 ?_
 refine A0 (A3 rfl rfl rfl (A9 rfl (kn rfl) (kn rfl) BE) .nil) ?_
 try refine A2 ?_
 refine AE rfl (fun h=>?_) (fun h=>?_)
 ·have hlt:k<l.length:=by have:=of_decide_eq_true h;omega
  obtain⟨x,hx⟩:∃ x,l[k]?=some x:=⟨_,List.getElem?_eq_getElem hlt⟩
  have htk:=D8 (f:=g) hx
  have hle:=DN g l (k+1)
  try refine A2 ?_
  refine A0 (A8 rfl rfl rfl rfl rfl (AD rfl rfl rfl rfl rfl .nil)) ?_
  try refine A2 ?_
  refine A0 (A8 rfl rfl rfl rfl rfl (A8 rfl rfl rfl rfl rfl (A8 rfl rfl rfl rfl rfl (A8 rfl rfl rfl rfl rfl (A3 rfl rfl rfl (AO rfl (kn rfl) (kn rfl) (by omega) hx CD sle_32 esz_32 (CK x)) (A3 rfl rfl rfl (BA rfl hfc (kn rfl) (h1 x (List.mem_of_getElem? hx)) ⟨AW (kn rfl) (Imp.ref_pref _),trivial⟩) (A3 rfl rfl rfl (A9 rfl (kn rfl) (kn rfl) (AM (by first | omega | (dsimp only;omega)))) (AD rfl rfl rfl rfl rfl .nil)))))))) ?_
  try refine A2 ?_
  try refine A2 ?_
  refine A0 (A3 rfl rfl rfl (A9 rfl (kn rfl) (kn rfl) (AM (by first | omega | (dsimp only;omega)))) (A8 rfl rfl rfl rfl rfl .nil)) ?_
  try refine A2 ?_
  refine AZ ⟨k+1,by omega⟩ (by dsimp only;omega) (fun K=>AP ⟨s_t,s_t,⟨_,rfl,Imp.of_eq (by rw[htk];rfl)⟩,s_t,s_t,trivial⟩ trivial trivial)
 obtain rfl:k=l.length:=by have:=of_decide_eq_false h;omega
 rw[List.take_length]
 try refine A2 ?_
 refine A0 (A8 rfl rfl rfl rfl rfl (AD rfl rfl rfl rfl rfl .nil)) ?_
 try refine A2 ?_
 exact A7 rfl rfl (.tmp (kn rfl) (.nil)) (Imp.of_eq rfl) rfl
theorem NS(f:FuncId)(hfc:AT Try.prog f=true)(l:List (Vl×Ed))(hl:l.length<=80)(g:Vl×Ed->Nat)(hb:(l.map g).sum<=100000)(h1:∀ x∈l,EF Try.prog [] f [pP (ekd x)] (.part (iP (g x)))):EF Try.prog [] 66 [.one (.row 28 l.length (l.flatMap DY)),fP f] (.part (iP ((l.map g).sum:Nat))):=by
 refine AF 21 Try.func66 rfl rfl rfl fun w D=>?_
 try refine A2 ?_
 refine A0 (AD rfl rfl rfl rfl rfl .nil) ?_
 try refine A2 ?_
 refine A0 (AD rfl rfl rfl rfl rfl .nil) ?_
 try refine A2 ?_
 refine A0 (A8 rfl rfl rfl rfl rfl (A3 rfl rfl rfl (AS rfl (kn rfl) sle_33) (A8 rfl rfl rfl rfl rfl .nil))) ?_
 try refine A2 ?_
 refine BC (ι:={ k:Nat // k<=l.length })
  (fun k=>[(0,.part (.one (.row 28 l.length (l.flatMap DY)))),(1,.part (fP f)),(5,.is (.int .i64 ((((l.take k.1).map g).sum:Nat):Int))),(8,.is (.int .i64 (l.length:Int))),(9,.is (.int .i64 (k.1:Int)))])
  (fun _=>[]) (fun _=>[]) (fun k=>l.length-k.1) ⟨0,by omega⟩
  (fun K=>AP ⟨s_t,s_t,⟨_,rfl,Imp.of_eq rfl⟩,s_t,s_t,trivial⟩ trivial trivial) ?_
 rintro⟨k,hk⟩
 dsimp only at hk ⊢
 try refine A2 ?_
 refine A0 (A3 rfl rfl rfl (A9 rfl (kn rfl) (kn rfl) BE) .nil) ?_
 try refine A2 ?_
 refine AE rfl (fun h=>?_) (fun h=>?_)
 ·have hlt:k<l.length:=by have:=of_decide_eq_true h;omega
  obtain⟨x,hx⟩:∃ x,l[k]?=some x:=⟨_,List.getElem?_eq_getElem hlt⟩
  have htk:=D8 (f:=g) hx
  have hle:=DN g l (k+1)
  try refine A2 ?_
  refine A0 (A8 rfl rfl rfl rfl rfl (AD rfl rfl rfl rfl rfl .nil)) ?_
  try refine A2 ?_
  refine A0 (A8 rfl rfl rfl rfl rfl (A8 rfl rfl rfl rfl rfl (A8 rfl rfl rfl rfl rfl (A8 rfl rfl rfl rfl rfl (A3 rfl rfl rfl (AO rfl (kn rfl) (kn rfl) (by omega) hx CU sle_33 esz_33 (D2 x)) (A3 rfl rfl rfl (BA rfl hfc (kn rfl) (h1 x (List.mem_of_getElem? hx)) ⟨AW (kn rfl) (Imp.ref_pref _),trivial⟩) (A3 rfl rfl rfl (A9 rfl (kn rfl) (kn rfl) (AM (by first | omega | (dsimp only;omega)))) (AD rfl rfl rfl rfl rfl .nil)))))))) ?_
  try refine A2 ?_
  try refine A2 ?_
  refine A0 (A3 rfl rfl rfl (A9 rfl (kn rfl) (kn rfl) (AM (by first | omega | (dsimp only;omega)))) (A8 rfl rfl rfl rfl rfl .nil)) ?_
  try refine A2 ?_
  refine AZ ⟨k+1,by omega⟩ (by dsimp only;omega) (fun K=>AP ⟨s_t,s_t,⟨_,rfl,Imp.of_eq (by rw[htk];rfl)⟩,s_t,s_t,trivial⟩ trivial trivial)
 obtain rfl:k=l.length:=by have:=of_decide_eq_false h;omega
 rw[List.take_length]
 try refine A2 ?_
 refine A0 (A8 rfl rfl rfl rfl rfl (AD rfl rfl rfl rfl rfl .nil)) ?_
 try refine A2 ?_
 exact A7 rfl rfl (.tmp (kn rfl) (.nil)) (Imp.of_eq rfl) rfl
end Go.Proofs.Ytojdpgeeajaojaa
