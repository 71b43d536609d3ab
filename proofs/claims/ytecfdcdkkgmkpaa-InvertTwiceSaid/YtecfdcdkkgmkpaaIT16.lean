/- Part 16. Conditions: as each theorem says. -/
import Derived.Test.YtecfdcdkkgmkpaaIT15
import Derived.Test.YtecfdcdkkgmkpaaProg
set_option maxRecDepth 100000
namespace Go.Proofs.Ytecfdcdkkgmkpaa
open Go.RowKit
abbrev pP(ds:List Dat):Part:=.one (.pref ds)
theorem L4(v:Vl)(hv:B7 v):EF Try.prog [] 87 [.many (vd v)] (.part (tP (DZ v))):=by
 refine AF 10 Try.func87 rfl rfl rfl fun w D=>?_
 try refine A1 ?_
 refine AI ?_
 refine BS 1 rfl rfl rfl rfl (kn rfl) rfl rfl rfl rfl ?_
 refine C7 ?_
 refine AH ?_
 try refine A1 ?_
 refine A0 (A3 rfl rfl rfl (A4 rfl (kn rfl) off_27_0) (A3 rfl rfl rfl (A5 rfl (kn rfl) rfl rfl one_3) (A3 rfl rfl rfl (A9 rfl (kn rfl) (kn rfl) AL) (A8 rfl rfl rfl rfl rfl (Walk.gd _ rfl rfl rfl (fun h=>AB (ds:=[_,_,_,_,_,_,_]) 7 rfl (kn rfl) rfl rfl agg_27 sz_27 rfl) (Walk.gd _ rfl rfl rfl (fun h=>AG rfl (by kernel_rfl) (F8 v hv) ⟨(A2 rfl h),trivial⟩) (A3 rfl rfl rfl (AP rfl (kn rfl) (fun hb=>A2 rfl hb)) (AC rfl rfl rfl rfl rfl .nil)))))))) ?_
 try refine A1 ?_
 exact A7 rfl rfl (.tmp (kn rfl) (.nil)) (Imp.of_eq rfl) rfl
theorem SO(f g:FuncId)(hfc:AU Try.prog f=true)(hgc:AU Try.prog g=true)(l:List (Int×Ed))(hl:l.length<=80)(ok:Int×Ed->Bool)(ah:Int×Ed->Int×Ed->Bool)(h1:∀ x∈l,EF Try.prog [] f [pP (efd x)] (.part (tP (ok x))))(h2:∀ x∈l,∀ y∈l,EF Try.prog [] g [pP (efd x),pP (efd y)] (.part (tP (ah x y)))):
  EF Try.prog [] 37 [.one (.row 22 l.length (l.flatMap CP)),fP f,fP g] (.part (tP (BE ok ah none l))):=by
 refine AF 36 Try.func37 rfl rfl rfl fun w D=>?_
 try refine A1 ?_
 refine A0 (AC rfl rfl rfl rfl rfl .nil) ?_
 try refine A1 ?_
 refine A0 (A8 rfl rfl rfl rfl rfl (A3 rfl rfl rfl (AW rfl (kn rfl) sle_28) (A8 rfl rfl rfl rfl rfl .nil))) ?_
 try refine A1 ?_
 refine BG (ι:={ k:Nat // k<=l.length/\BE ok ah none l=BE ok ah (DC l k) (l.drop k) })
  (fun k=>[(0,.part (.one (.row 22 l.length (l.flatMap CP)))),(1,.part (fP f)),(2,.part (fP g)),(9,.is (.int .i64 (l.length:Int))),(10,.is (.int .i64 (k.1:Int)))])
  (fun _=>[]) (fun _=>[]) (fun k=>l.length-k.1) ⟨0,by omega,rfl⟩
  (fun K=>AN ⟨s_t,s_t,s_t,s_t,s_t,trivial⟩ trivial trivial) ?_
 rintro⟨k,hk,hw⟩
 dsimp only at hk hw ⊢
 try refine A1 ?_
 refine A0 (A3 rfl rfl rfl (A9 rfl (kn rfl) (kn rfl) BJ) .nil) ?_
 try refine A1 ?_
 refine AE rfl (fun h=>?_) (fun h=>?_)
 ·have hlt:k<l.length:=by have:=of_decide_eq_true h;omega
  obtain⟨x,hx⟩:∃ x,l[k]?=some x:=⟨_,List.getElem?_eq_getElem hlt⟩
  obtain⟨p,hp⟩:=NA hlt
  have mx:=List.mem_of_getElem? hx
  have mp:=List.mem_of_getElem? hp
  have hpo:=LK hp
  try refine A1 ?_
  refine A0 (A8 rfl rfl rfl rfl rfl (AC rfl rfl rfl rfl rfl .nil)) ?_
  try refine A1 ?_
  refine BZ C8 (by kernel_rfl) (A8 rfl rfl rfl rfl rfl (A8 rfl rfl rfl rfl rfl (A8 rfl rfl rfl rfl rfl (A3 rfl rfl rfl (AQ rfl (kn rfl) (kn rfl) (by omega) hx CQ sle_28 esz_28 (CO x)) (A3 rfl rfl rfl (BO rfl hfc (kn rfl) (h1 x mx) ⟨B4 (kn rfl) (Imp.ref_pref _),trivial⟩) (A3 rfl rfl rfl (DL rfl (kn rfl)) (A8 rfl rfl rfl rfl rfl (Walk.gd _ rfl rfl rfl (fun h=>AM rfl (kn rfl)) (Walk.gd _ rfl rfl rfl (fun h=>A9 rfl (A2 rfl h) (kn rfl) DQ) (Walk.gd _ rfl rfl rfl (fun h=>AM rfl (A2 rfl h)) (Walk.gd _ rfl rfl rfl (fun h=>AM rfl (kn rfl)) (Walk.gd _ rfl rfl rfl (fun h=>AM rfl (kn rfl)) (Walk.gd _ rfl rfl rfl (fun h=>AM rfl (kn rfl)) (Walk.gd _ rfl rfl rfl (fun h=>A9 rfl (A2 rfl h) (kn rfl) (EB (by first | omega | (dsimp only;omega)))) (Walk.gd _ rfl rfl rfl (fun h=>AQ rfl (A2 rfl h) (A2 rfl h) (WH h) hp CQ sle_28 esz_28 (CO p)) (Walk.gd _ rfl rfl rfl (fun h=>AM rfl (kn rfl)) (Walk.gd _ rfl rfl rfl (fun h=>AM rfl (kn rfl)) (Walk.gd _ rfl rfl rfl (fun h=>AQ rfl (A2 rfl h) (A2 rfl h) (by omega) hx CQ sle_28 esz_28 (CO x)) (Walk.gd _ rfl rfl rfl (fun h=>BO rfl hgc (A2 rfl h) (h2 p mp x mx) ⟨B4 (A2 rfl h) (Imp.ref_pref _),B4 (A2 rfl h) (Imp.ref_pref _),trivial⟩) (Walk.gd _ rfl rfl rfl (fun h=>DL rfl (A2 rfl h)) (Walk.gd _ rfl rfl rfl (fun h=>AP rfl (A2 rfl h) (fun hb=>A2 rfl (gb h hb))) (A3 rfl rfl rfl (FK rfl (kn rfl) (fun hb=>A2 rfl hb)) .nil)))))))))))))))))))))) ?_
  try refine A1 ?_
  refine AE rfl (fun h3=>?_) (fun h3=>?_)
  ·have e:BE ok ah none l=false:=by
    simp only[Bool.or_eq_true,Bool.and_eq_true,Bool.not_eq_true',decide_eq_true_eq]at h3
    rcases h3 with h3 | h3
    ·exact F9 hx hw (.inl h3)
    ·exact F9 hx hw (.inr ⟨p,by rw[hpo,if_neg (by omega)],h3.2⟩)
   try refine A1 ?_
   refine A0 (AC rfl rfl rfl rfl rfl .nil) ?_
   try refine A1 ?_
   exact A7 rfl rfl (.tmp (kn rfl) (.nil)) (AR e.symm) rfl
  simp only[Bool.or_eq_false_iff,Bool.and_eq_false_iff,Bool.not_eq_false',decide_eq_false_iff_not]at h3
  have hw2:=J9 hx hw h3.1 (fun p' hp'=>by
   rw[hpo]at hp'
   split at hp'
   ·cases hp'
   ·cases hp'
    rcases h3.2 with h4 | h4
    ·omega
    ·exact h4)
  try refine A1 ?_
  refine A0 (A3 rfl rfl rfl (A9 rfl (kn rfl) (kn rfl) (AO (by first | omega | (dsimp only;omega)))) (A8 rfl rfl rfl rfl rfl .nil)) ?_
  try refine A1 ?_
  refine AT ⟨k+1,by omega,hw2⟩ (by dsimp only;omega) (fun K=>AN ⟨s_t,s_t,s_t,s_t,s_t,trivial⟩ trivial trivial)
 have e:BE ok ah none l=true:=KO (by have:=of_decide_eq_false h;omega) hw
 try refine A1 ?_
 refine A0 (AC rfl rfl rfl rfl rfl .nil) ?_
 try refine A1 ?_
 exact A7 rfl rfl (.tmp (kn rfl) (.nil)) (AR e.symm) rfl
theorem SA(f g:FuncId)(hfc:AU Try.prog f=true)(hgc:AU Try.prog g=true)(l:List ((Int×Int×Vl)×Ed))(hl:l.length<=80)(ok:(Int×Int×Vl)×Ed->Bool)(ah:(Int×Int×Vl)×Ed->(Int×Int×Vl)×Ed->Bool)(h1:∀ x∈l,EF Try.prog [] f [pP (esd x)] (.part (tP (ok x))))(h2:∀ x∈l,∀ y∈l,EF Try.prog [] g [pP (esd x),pP (esd y)] (.part (tP (ah x y)))):
  EF Try.prog [] 42 [.one (.row 30 l.length (l.flatMap BF)),fP f,fP g] (.part (tP (BE ok ah none l))):=by
 refine AF 36 Try.func42 rfl rfl rfl fun w D=>?_
 try refine A1 ?_
 refine A0 (AC rfl rfl rfl rfl rfl .nil) ?_
 try refine A1 ?_
 refine A0 (A8 rfl rfl rfl rfl rfl (A3 rfl rfl rfl (AW rfl (kn rfl) sle_29) (A8 rfl rfl rfl rfl rfl .nil))) ?_
 try refine A1 ?_
 refine BG (ι:={ k:Nat // k<=l.length/\BE ok ah none l=BE ok ah (DC l k) (l.drop k) })
  (fun k=>[(0,.part (.one (.row 30 l.length (l.flatMap BF)))),(1,.part (fP f)),(2,.part (fP g)),(9,.is (.int .i64 (l.length:Int))),(10,.is (.int .i64 (k.1:Int)))])
  (fun _=>[]) (fun _=>[]) (fun k=>l.length-k.1) ⟨0,by omega,rfl⟩
  (fun K=>AN ⟨s_t,s_t,s_t,s_t,s_t,trivial⟩ trivial trivial) ?_
 rintro⟨k,hk,hw⟩
 dsimp only at hk hw ⊢
 try refine A1 ?_
 refine A0 (A3 rfl rfl rfl (A9 rfl (kn rfl) (kn rfl) BJ) .nil) ?_
 try refine A1 ?_
 refine AE rfl (fun h=>?_) (fun h=>?_)
 ·have hlt:k<l.length:=by have:=of_decide_eq_true h;omega
  obtain⟨x,hx⟩:∃ x,l[k]?=some x:=⟨_,List.getElem?_eq_getElem hlt⟩
  obtain⟨p,hp⟩:=NA hlt
  have mx:=List.mem_of_getElem? hx
  have mp:=List.mem_of_getElem? hp
  have hpo:=LK hp
  try refine A1 ?_
  refine A0 (A8 rfl rfl rfl rfl rfl (AC rfl rfl rfl rfl rfl .nil)) ?_
  try refine A1 ?_
  refine BZ C8 (by kernel_rfl) (A8 rfl rfl rfl rfl rfl (A8 rfl rfl rfl rfl rfl (A8 rfl rfl rfl rfl rfl (A3 rfl rfl rfl (AQ rfl (kn rfl) (kn rfl) (by omega) hx C2 sle_29 esz_29 (BX x)) (A3 rfl rfl rfl (BO rfl hfc (kn rfl) (h1 x mx) ⟨B4 (kn rfl) (Imp.ref_pref _),trivial⟩) (A3 rfl rfl rfl (DL rfl (kn rfl)) (A8 rfl rfl rfl rfl rfl (Walk.gd _ rfl rfl rfl (fun h=>AM rfl (kn rfl)) (Walk.gd _ rfl rfl rfl (fun h=>A9 rfl (A2 rfl h) (kn rfl) DQ) (Walk.gd _ rfl rfl rfl (fun h=>AM rfl (A2 rfl h)) (Walk.gd _ rfl rfl rfl (fun h=>AM rfl (kn rfl)) (Walk.gd _ rfl rfl rfl (fun h=>AM rfl (kn rfl)) (Walk.gd _ rfl rfl rfl (fun h=>AM rfl (kn rfl)) (Walk.gd _ rfl rfl rfl (fun h=>A9 rfl (A2 rfl h) (kn rfl) (EB (by first | omega | (dsimp only;omega)))) (Walk.gd _ rfl rfl rfl (fun h=>AQ rfl (A2 rfl h) (A2 rfl h) (WH h) hp C2 sle_29 esz_29 (BX p)) (Walk.gd _ rfl rfl rfl (fun h=>AM rfl (kn rfl)) (Walk.gd _ rfl rfl rfl (fun h=>AM rfl (kn rfl)) (Walk.gd _ rfl rfl rfl (fun h=>AQ rfl (A2 rfl h) (A2 rfl h) (by omega) hx C2 sle_29 esz_29 (BX x)) (Walk.gd _ rfl rfl rfl (fun h=>BO rfl hgc (A2 rfl h) (h2 p mp x mx) ⟨B4 (A2 rfl h) (Imp.ref_pref _),B4 (A2 rfl h) (Imp.ref_pref _),trivial⟩) (Walk.gd _ rfl rfl rfl (fun h=>DL rfl (A2 rfl h)) (Walk.gd _ rfl rfl rfl (fun h=>AP rfl (A2 rfl h) (fun hb=>A2 rfl (gb h hb))) (A3 rfl rfl rfl (FK rfl (kn rfl) (fun hb=>A2 rfl hb)) .nil)))))))))))))))))))))) ?_
  try refine A1 ?_
  refine AE rfl (fun h3=>?_) (fun h3=>?_)
  ·have e:BE ok ah none l=false:=by
    simp only[Bool.or_eq_true,Bool.and_eq_true,Bool.not_eq_true',decide_eq_true_eq]at h3
    rcases h3 with h3 | h3
    ·exact F9 hx hw (.inl h3)
    ·exact F9 hx hw (.inr ⟨p,by rw[hpo,if_neg (by omega)],h3.2⟩)
   try refine A1 ?_
   refine A0 (AC rfl rfl rfl rfl rfl .nil) ?_
   try refine A1 ?_
   exact A7 rfl rfl (.tmp (kn rfl) (.nil)) (AR e.symm) rfl
  simp only[Bool.or_eq_false_iff,Bool.and_eq_false_iff,Bool.not_eq_false',decide_eq_false_iff_not]at h3
  have hw2:=J9 hx hw h3.1 (fun p' hp'=>by
   rw[hpo]at hp'
   split at hp'
   ·cases hp'
   ·cases hp'
    rcases h3.2 with h4 | h4
    ·omega
    ·exact h4)
  try refine A1 ?_
  refine A0 (A3 rfl rfl rfl (A9 rfl (kn rfl) (kn rfl) (AO (by first | omega | (dsimp only;omega)))) (A8 rfl rfl rfl rfl rfl .nil)) ?_
  try refine A1 ?_
  refine AT ⟨k+1,by omega,hw2⟩ (by dsimp only;omega) (fun K=>AN ⟨s_t,s_t,s_t,s_t,s_t,trivial⟩ trivial trivial)
 have e:BE ok ah none l=true:=KO (by have:=of_decide_eq_false h;omega) hw
 try refine A1 ?_
 refine A0 (AC rfl rfl rfl rfl rfl .nil) ?_
 try refine A1 ?_
 exact A7 rfl rfl (.tmp (kn rfl) (.nil)) (AR e.symm) rfl
theorem SQ(f g:FuncId)(hfc:AU Try.prog f=true)(hgc:AU Try.prog g=true)(l:List (Vl×Ed))(hl:l.length<=80)(ok:Vl×Ed->Bool)(ah:Vl×Ed->Vl×Ed->Bool)(h1:∀ x∈l,EF Try.prog [] f [pP (ekd x)] (.part (tP (ok x))))(h2:∀ x∈l,∀ y∈l,EF Try.prog [] g [pP (ekd x),pP (ekd y)] (.part (tP (ah x y)))):
  EF Try.prog [] 45 [.one (.row 28 l.length (l.flatMap CM)),fP f,fP g] (.part (tP (BE ok ah none l))):=by
 refine AF 36 Try.func45 rfl rfl rfl fun w D=>?_
 try refine A1 ?_
 refine A0 (AC rfl rfl rfl rfl rfl .nil) ?_
 try refine A1 ?_
 refine A0 (A8 rfl rfl rfl rfl rfl (A3 rfl rfl rfl (AW rfl (kn rfl) sle_30) (A8 rfl rfl rfl rfl rfl .nil))) ?_
 try refine A1 ?_
 refine BG (ι:={ k:Nat // k<=l.length/\BE ok ah none l=BE ok ah (DC l k) (l.drop k) })
  (fun k=>[(0,.part (.one (.row 28 l.length (l.flatMap CM)))),(1,.part (fP f)),(2,.part (fP g)),(9,.is (.int .i64 (l.length:Int))),(10,.is (.int .i64 (k.1:Int)))])
  (fun _=>[]) (fun _=>[]) (fun k=>l.length-k.1) ⟨0,by omega,rfl⟩
  (fun K=>AN ⟨s_t,s_t,s_t,s_t,s_t,trivial⟩ trivial trivial) ?_
 rintro⟨k,hk,hw⟩
 dsimp only at hk hw ⊢
 try refine A1 ?_
 refine A0 (A3 rfl rfl rfl (A9 rfl (kn rfl) (kn rfl) BJ) .nil) ?_
 try refine A1 ?_
 refine AE rfl (fun h=>?_) (fun h=>?_)
 ·have hlt:k<l.length:=by have:=of_decide_eq_true h;omega
  obtain⟨x,hx⟩:∃ x,l[k]?=some x:=⟨_,List.getElem?_eq_getElem hlt⟩
  obtain⟨p,hp⟩:=NA hlt
  have mx:=List.mem_of_getElem? hx
  have mp:=List.mem_of_getElem? hp
  have hpo:=LK hp
  try refine A1 ?_
  refine A0 (A8 rfl rfl rfl rfl rfl (AC rfl rfl rfl rfl rfl .nil)) ?_
  try refine A1 ?_
  refine BZ C8 (by kernel_rfl) (A8 rfl rfl rfl rfl rfl (A8 rfl rfl rfl rfl rfl (A8 rfl rfl rfl rfl rfl (A3 rfl rfl rfl (AQ rfl (kn rfl) (kn rfl) (by omega) hx CS sle_30 esz_30 (CN x)) (A3 rfl rfl rfl (BO rfl hfc (kn rfl) (h1 x mx) ⟨B4 (kn rfl) (Imp.ref_pref _),trivial⟩) (A3 rfl rfl rfl (DL rfl (kn rfl)) (A8 rfl rfl rfl rfl rfl (Walk.gd _ rfl rfl rfl (fun h=>AM rfl (kn rfl)) (Walk.gd _ rfl rfl rfl (fun h=>A9 rfl (A2 rfl h) (kn rfl) DQ) (Walk.gd _ rfl rfl rfl (fun h=>AM rfl (A2 rfl h)) (Walk.gd _ rfl rfl rfl (fun h=>AM rfl (kn rfl)) (Walk.gd _ rfl rfl rfl (fun h=>AM rfl (kn rfl)) (Walk.gd _ rfl rfl rfl (fun h=>AM rfl (kn rfl)) (Walk.gd _ rfl rfl rfl (fun h=>A9 rfl (A2 rfl h) (kn rfl) (EB (by first | omega | (dsimp only;omega)))) (Walk.gd _ rfl rfl rfl (fun h=>AQ rfl (A2 rfl h) (A2 rfl h) (WH h) hp CS sle_30 esz_30 (CN p)) (Walk.gd _ rfl rfl rfl (fun h=>AM rfl (kn rfl)) (Walk.gd _ rfl rfl rfl (fun h=>AM rfl (kn rfl)) (Walk.gd _ rfl rfl rfl (fun h=>AQ rfl (A2 rfl h) (A2 rfl h) (by omega) hx CS sle_30 esz_30 (CN x)) (Walk.gd _ rfl rfl rfl (fun h=>BO rfl hgc (A2 rfl h) (h2 p mp x mx) ⟨B4 (A2 rfl h) (Imp.ref_pref _),B4 (A2 rfl h) (Imp.ref_pref _),trivial⟩) (Walk.gd _ rfl rfl rfl (fun h=>DL rfl (A2 rfl h)) (Walk.gd _ rfl rfl rfl (fun h=>AP rfl (A2 rfl h) (fun hb=>A2 rfl (gb h hb))) (A3 rfl rfl rfl (FK rfl (kn rfl) (fun hb=>A2 rfl hb)) .nil)))))))))))))))))))))) ?_
  try refine A1 ?_
  refine AE rfl (fun h3=>?_) (fun h3=>?_)
  ·have e:BE ok ah none l=false:=by
    simp only[Bool.or_eq_true,Bool.and_eq_true,Bool.not_eq_true',decide_eq_true_eq]at h3
    rcases h3 with h3 | h3
    ·exact F9 hx hw (.inl h3)
    ·exact F9 hx hw (.inr ⟨p,by rw[hpo,if_neg (by omega)],h3.2⟩)
   try refine A1 ?_
   refine A0 (AC rfl rfl rfl rfl rfl .nil) ?_
   try refine A1 ?_
   exact A7 rfl rfl (.tmp (kn rfl) (.nil)) (AR e.symm) rfl
  simp only[Bool.or_eq_false_iff,Bool.and_eq_false_iff,Bool.not_eq_false',decide_eq_false_iff_not]at h3
  have hw2:=J9 hx hw h3.1 (fun p' hp'=>by
   rw[hpo]at hp'
   split at hp'
   ·cases hp'
   ·cases hp'
    rcases h3.2 with h4 | h4
    ·omega
    ·exact h4)
  try refine A1 ?_
  refine A0 (A3 rfl rfl rfl (A9 rfl (kn rfl) (kn rfl) (AO (by first | omega | (dsimp only;omega)))) (A8 rfl rfl rfl rfl rfl .nil)) ?_
  try refine A1 ?_
  refine AT ⟨k+1,by omega,hw2⟩ (by dsimp only;omega) (fun K=>AN ⟨s_t,s_t,s_t,s_t,s_t,trivial⟩ trivial trivial)
 have e:BE ok ah none l=true:=KO (by have:=of_decide_eq_false h;omega) hw
 try refine A1 ?_
 refine A0 (AC rfl rfl rfl rfl rfl .nil) ?_
 try refine A1 ?_
 exact A7 rfl rfl (.tmp (kn rfl) (.nil)) (AR e.symm) rfl
theorem V9{α:Type}{p:α->Bool}{l:List α}{k:Nat}(hk:l.length<=k)(h:l.any p=(l.drop k).any p):l.any p=false:=by
 rw[h,List.drop_eq_nil_of_le hk]
 rfl
theorem UV{α:Type}{p:α->Bool}{l:List α}{k:Nat}{x:α}(hx:l[k]?=some x)(h:l.any p=(l.drop k).any p):l.any p=(p x||(l.drop (k+1)).any p):=by
 rw[h,BQ hx,List.any_cons]
theorem WG(f:FuncId)(hfc:AU Try.prog f=true)(l:List ((Int×Int×Vl)×Ed))(hl:l.length<=80)(p:(Int×Int×Vl)×Ed->Bool)(h1:∀ x∈l,EF Try.prog [] f [pP (esd x)] (.part (tP (p x)))):EF Try.prog [] 40 [.one (.row 30 l.length (l.flatMap BF)),fP f] (.part (tP (l.any p))):=by
 refine AF 17 Try.func40 rfl rfl rfl fun w D=>?_
 try refine A1 ?_
 refine A0 (AC rfl rfl rfl rfl rfl .nil) ?_
 try refine A1 ?_
 refine A0 (A8 rfl rfl rfl rfl rfl (A3 rfl rfl rfl (AW rfl (kn rfl) sle_29) (A8 rfl rfl rfl rfl rfl .nil))) ?_
 try refine A1 ?_
 refine BG (ι:={ k:Nat // k<=l.length/\l.any p=(l.drop k).any p })
  (fun k=>[(0,.part (.one (.row 30 l.length (l.flatMap BF)))),(1,.part (fP f)),(7,.is (.int .i64 (l.length:Int))),(8,.is (.int .i64 (k.1:Int)))])
  (fun _=>[]) (fun _=>[]) (fun k=>l.length-k.1) ⟨0,by omega,rfl⟩
  (fun K=>AN ⟨s_t,s_t,s_t,s_t,trivial⟩ trivial trivial) ?_
 rintro⟨k,hk,hw⟩
 dsimp only at hk hw ⊢
 try refine A1 ?_
 refine A0 (A3 rfl rfl rfl (A9 rfl (kn rfl) (kn rfl) BJ) .nil) ?_
 try refine A1 ?_
 refine AE rfl (fun h=>?_) (fun h=>?_)
 ·have hlt:k<l.length:=by have:=of_decide_eq_true h;omega
  obtain⟨x,hx⟩:∃ x,l[k]?=some x:=⟨_,List.getElem?_eq_getElem hlt⟩
  have hs:=UV hx hw
  try refine A1 ?_
  refine A0 (A8 rfl rfl rfl rfl rfl (AC rfl rfl rfl rfl rfl .nil)) ?_
  try refine A1 ?_
  refine A0 (A8 rfl rfl rfl rfl rfl (A8 rfl rfl rfl rfl rfl (A8 rfl rfl rfl rfl rfl (A3 rfl rfl rfl (AQ rfl (kn rfl) (kn rfl) (by omega) hx C2 sle_29 esz_29 (BX x)) (A3 rfl rfl rfl (BO rfl hfc (kn rfl) (h1 x (List.mem_of_getElem? hx)) ⟨B4 (kn rfl) (Imp.ref_pref _),trivial⟩) .nil))))) ?_
  try refine A1 ?_
  refine AE rfl (fun h3=>?_) (fun h3=>?_)
  ·have e:l.any p=true:=by rw[hs,h3];rfl
   try refine A1 ?_
   refine A0 (AC rfl rfl rfl rfl rfl .nil) ?_
   try refine A1 ?_
   exact A7 rfl rfl (.tmp (kn rfl) (.nil)) (AR e.symm) rfl
  rw[h3,Bool.false_or]at hs
  try refine A1 ?_
  refine A0 (A3 rfl rfl rfl (A9 rfl (kn rfl) (kn rfl) (AO (by first | omega | (dsimp only;omega)))) (A8 rfl rfl rfl rfl rfl .nil)) ?_
  try refine A1 ?_
  refine AT ⟨k+1,by omega,hs⟩ (by dsimp only;omega) (fun K=>AN ⟨s_t,s_t,s_t,s_t,trivial⟩ trivial trivial)
 have e:l.any p=false:=V9 (by have:=of_decide_eq_false h;omega) hw
 try refine A1 ?_
 refine A0 (AC rfl rfl rfl rfl rfl .nil) ?_
 try refine A1 ?_
 exact A7 rfl rfl (.tmp (kn rfl) (.nil)) (AR e.symm) rfl
theorem QZ(f:FuncId)(hfc:AU Try.prog f=true)(l m:List (Int×Ed))(hl:l.length<=80)(hm:m.length<=80)(p:Int×Ed->Int×Ed->Bool)(h1:∀ x∈l,∀ y∈m,EF Try.prog [] f [pP (efd x),pP (efd y)] (.part (tP (p x y)))):
  EF Try.prog [] 58 [.one (.row 22 l.length (l.flatMap CP)),.one (.row 22 m.length (m.flatMap CP)),fP f] (.part (tP (C9 p l m))):=by
 refine AF 28 Try.func58 rfl rfl rfl fun w D=>?_
 try refine A1 ?_
 refine A0 (AC rfl rfl rfl rfl rfl .nil) ?_
 try refine A1 ?_
 refine A0 (A8 rfl rfl rfl rfl rfl (A3 rfl rfl rfl (AW rfl (kn rfl) sle_28) (A8 rfl rfl rfl rfl rfl (A3 rfl rfl rfl (AW rfl (kn rfl) sle_28) (A3 rfl rfl rfl (A9 rfl (kn rfl) (kn rfl) DP) .nil))))) ?_
 try refine A1 ?_
 refine AE rfl (fun h=>?_) (fun h=>?_)
 ·have e:C9 p l m=false:=I3 (by
   simp only[Bool.not_eq_true',decide_eq_false_iff_not]at h
   omega)
  try refine A1 ?_
  refine A0 (AC rfl rfl rfl rfl rfl .nil) ?_
  try refine A1 ?_
  exact A7 rfl rfl (.tmp (kn rfl) (.nil)) (AR e.symm) rfl
 have hlm:l.length=m.length:=by
  simp only[Bool.not_eq_false',decide_eq_true_eq]at h
  omega
 clear h
 try refine A1 ?_
 refine A0 (A8 rfl rfl rfl rfl rfl (A3 rfl rfl rfl (AW rfl (kn rfl) sle_28) (A8 rfl rfl rfl rfl rfl .nil))) ?_
 try refine A1 ?_
 refine BG (ι:={ k:Nat // k<=l.length/\C9 p l m=C9 p (l.drop k) (m.drop k) })
  (fun k=>[(0,.part (.one (.row 22 l.length (l.flatMap CP)))),(1,.part (.one (.row 22 m.length (m.flatMap CP)))),(2,.part (fP f)),(14,.is (.int .i64 (l.length:Int))),(15,.is (.int .i64 (k.1:Int)))])
  (fun _=>[]) (fun _=>[]) (fun k=>l.length-k.1) ⟨0,by omega,rfl⟩
  (fun K=>AN ⟨s_t,s_t,s_t,s_t,s_t,trivial⟩ trivial trivial) ?_
 rintro⟨k,hk,hw⟩
 dsimp only at hk hw ⊢
 try refine A1 ?_
 refine A0 (A3 rfl rfl rfl (A9 rfl (kn rfl) (kn rfl) BJ) .nil) ?_
 try refine A1 ?_
 refine AE rfl (fun h=>?_) (fun h=>?_)
 ·have hlt:k<l.length:=by have:=of_decide_eq_true h;omega
  obtain⟨x,hx⟩:∃ x,l[k]?=some x:=⟨_,List.getElem?_eq_getElem hlt⟩
  obtain⟨y,hy⟩:∃ y,m[k]?=some y:=⟨_,List.getElem?_eq_getElem (by omega)⟩
  have hs:=IR hx hy hw
  try refine A1 ?_
  refine A0 (A8 rfl rfl rfl rfl rfl (AC rfl rfl rfl rfl rfl .nil)) ?_
  try refine A1 ?_
  refine BZ C8 (by kernel_rfl) (A8 rfl rfl rfl rfl rfl (A8 rfl rfl rfl rfl rfl (A8 rfl rfl rfl rfl rfl (A3 rfl rfl rfl (AQ rfl (kn rfl) (kn rfl) (by omega) hx CQ sle_28 esz_28 (CO x)) (A8 rfl rfl rfl rfl rfl (A8 rfl rfl rfl rfl rfl (A3 rfl rfl rfl (AQ rfl (kn rfl) (kn rfl) (by omega) hy CQ sle_28 esz_28 (CO y)) (A3 rfl rfl rfl (BO rfl hfc (kn rfl) (h1 x (List.mem_of_getElem? hx) y (List.mem_of_getElem? hy)) ⟨B4 (kn rfl) (Imp.ref_pref _),B4 (kn rfl) (Imp.ref_pref _),trivial⟩) (A3 rfl rfl rfl (DL rfl (kn rfl)) .nil))))))))) ?_
  try refine A1 ?_
  refine AE rfl (fun h3=>?_) (fun h3=>?_)
  ·have e:C9 p l m=false:=by rw[hs,Q0 h3];rfl
   try refine A1 ?_
   refine A0 (AC rfl rfl rfl rfl rfl .nil) ?_
   try refine A1 ?_
   exact A7 rfl rfl (.tmp (kn rfl) (.nil)) (AR e.symm) rfl
  rw[PT h3,Bool.true_and]at hs
  try refine A1 ?_
  refine A0 (A3 rfl rfl rfl (A9 rfl (kn rfl) (kn rfl) (AO (by first | omega | (dsimp only;omega)))) (A8 rfl rfl rfl rfl rfl .nil)) ?_
  try refine A1 ?_
  refine AT ⟨k+1,by omega,hs⟩ (by dsimp only;omega) (fun K=>AN ⟨s_t,s_t,s_t,s_t,s_t,trivial⟩ trivial trivial)
 have e:C9 p l m=true:=LJ hlm (by have:=of_decide_eq_false h;omega) hw
 try refine A1 ?_
 refine A0 (AC rfl rfl rfl rfl rfl .nil) ?_
 try refine A1 ?_
 exact A7 rfl rfl (.tmp (kn rfl) (.nil)) (AR e.symm) rfl
theorem RC(f:FuncId)(hfc:AU Try.prog f=true)(l m:List ((Int×Int×Vl)×Ed))(hl:l.length<=80)(hm:m.length<=80)(p:(Int×Int×Vl)×Ed->(Int×Int×Vl)×Ed->Bool)(h1:∀ x∈l,∀ y∈m,EF Try.prog [] f [pP (esd x),pP (esd y)] (.part (tP (p x y)))):
  EF Try.prog [] 60 [.one (.row 30 l.length (l.flatMap BF)),.one (.row 30 m.length (m.flatMap BF)),fP f] (.part (tP (C9 p l m))):=by
 refine AF 28 Try.func60 rfl rfl rfl fun w D=>?_
 try refine A1 ?_
 refine A0 (AC rfl rfl rfl rfl rfl .nil) ?_
 try refine A1 ?_
 refine A0 (A8 rfl rfl rfl rfl rfl (A3 rfl rfl rfl (AW rfl (kn rfl) sle_29) (A8 rfl rfl rfl rfl rfl (A3 rfl rfl rfl (AW rfl (kn rfl) sle_29) (A3 rfl rfl rfl (A9 rfl (kn rfl) (kn rfl) DP) .nil))))) ?_
 try refine A1 ?_
 refine AE rfl (fun h=>?_) (fun h=>?_)
 ·have e:C9 p l m=false:=I3 (by
   simp only[Bool.not_eq_true',decide_eq_false_iff_not]at h
   omega)
  try refine A1 ?_
  refine A0 (AC rfl rfl rfl rfl rfl .nil) ?_
  try refine A1 ?_
  exact A7 rfl rfl (.tmp (kn rfl) (.nil)) (AR e.symm) rfl
 have hlm:l.length=m.length:=by
  simp only[Bool.not_eq_false',decide_eq_true_eq]at h
  omega
 clear h
 try refine A1 ?_
 refine A0 (A8 rfl rfl rfl rfl rfl (A3 rfl rfl rfl (AW rfl (kn rfl) sle_29) (A8 rfl rfl rfl rfl rfl .nil))) ?_
 try refine A1 ?_
 refine BG (ι:={ k:Nat // k<=l.length/\C9 p l m=C9 p (l.drop k) (m.drop k) })
  (fun k=>[(0,.part (.one (.row 30 l.length (l.flatMap BF)))),(1,.part (.one (.row 30 m.length (m.flatMap BF)))),(2,.part (fP f)),(14,.is (.int .i64 (l.length:Int))),(15,.is (.int .i64 (k.1:Int)))])
  (fun _=>[]) (fun _=>[]) (fun k=>l.length-k.1) ⟨0,by omega,rfl⟩
  (fun K=>AN ⟨s_t,s_t,s_t,s_t,s_t,trivial⟩ trivial trivial) ?_
 rintro⟨k,hk,hw⟩
 dsimp only at hk hw ⊢
 try refine A1 ?_
 refine A0 (A3 rfl rfl rfl (A9 rfl (kn rfl) (kn rfl) BJ) .nil) ?_
 try refine A1 ?_
 refine AE rfl (fun h=>?_) (fun h=>?_)
 ·have hlt:k<l.length:=by have:=of_decide_eq_true h;omega
  obtain⟨x,hx⟩:∃ x,l[k]?=some x:=⟨_,List.getElem?_eq_getElem hlt⟩
  obtain⟨y,hy⟩:∃ y,m[k]?=some y:=⟨_,List.getElem?_eq_getElem (by omega)⟩
  have hs:=IR hx hy hw
  try refine A1 ?_
  refine A0 (A8 rfl rfl rfl rfl rfl (AC rfl rfl rfl rfl rfl .nil)) ?_
  try refine A1 ?_
  refine BZ C8 (by kernel_rfl) (A8 rfl rfl rfl rfl rfl (A8 rfl rfl rfl rfl rfl (A8 rfl rfl rfl rfl rfl (A3 rfl rfl rfl (AQ rfl (kn rfl) (kn rfl) (by omega) hx C2 sle_29 esz_29 (BX x)) (A8 rfl rfl rfl rfl rfl (A8 rfl rfl rfl rfl rfl (A3 rfl rfl rfl (AQ rfl (kn rfl) (kn rfl) (by omega) hy C2 sle_29 esz_29 (BX y)) (A3 rfl rfl rfl (BO rfl hfc (kn rfl) (h1 x (List.mem_of_getElem? hx) y (List.mem_of_getElem? hy)) ⟨B4 (kn rfl) (Imp.ref_pref _),B4 (kn rfl) (Imp.ref_pref _),trivial⟩) (A3 rfl rfl rfl (DL rfl (kn rfl)) .nil))))))))) ?_
  try refine A1 ?_
  refine AE rfl (fun h3=>?_) (fun h3=>?_)
  ·have e:C9 p l m=false:=by rw[hs,Q0 h3];rfl
   try refine A1 ?_
   refine A0 (AC rfl rfl rfl rfl rfl .nil) ?_
   try refine A1 ?_
   exact A7 rfl rfl (.tmp (kn rfl) (.nil)) (AR e.symm) rfl
  rw[PT h3,Bool.true_and]at hs
  try refine A1 ?_
  refine A0 (A3 rfl rfl rfl (A9 rfl (kn rfl) (kn rfl) (AO (by first | omega | (dsimp only;omega)))) (A8 rfl rfl rfl rfl rfl .nil)) ?_
  try refine A1 ?_
  refine AT ⟨k+1,by omega,hs⟩ (by dsimp only;omega) (fun K=>AN ⟨s_t,s_t,s_t,s_t,s_t,trivial⟩ trivial trivial)
 have e:C9 p l m=true:=LJ hlm (by have:=of_decide_eq_false h;omega) hw
 try refine A1 ?_
 refine A0 (AC rfl rfl rfl rfl rfl .nil) ?_
 try refine A1 ?_
 exact A7 rfl rfl (.tmp (kn rfl) (.nil)) (AR e.symm) rfl
theorem QT(f:FuncId)(hfc:AU Try.prog f=true)(l m:List (Vl×Ed))(hl:l.length<=80)(hm:m.length<=80)(p:Vl×Ed->Vl×Ed->Bool)(h1:∀ x∈l,∀ y∈m,EF Try.prog [] f [pP (ekd x),pP (ekd y)] (.part (tP (p x y)))):
  EF Try.prog [] 62 [.one (.row 28 l.length (l.flatMap CM)),.one (.row 28 m.length (m.flatMap CM)),fP f] (.part (tP (C9 p l m))):=by
 refine AF 28 Try.func62 rfl rfl rfl fun w D=>?_
 try refine A1 ?_
 refine A0 (AC rfl rfl rfl rfl rfl .nil) ?_
 try refine A1 ?_
 refine A0 (A8 rfl rfl rfl rfl rfl (A3 rfl rfl rfl (AW rfl (kn rfl) sle_30) (A8 rfl rfl rfl rfl rfl (A3 rfl rfl rfl (AW rfl (kn rfl) sle_30) (A3 rfl rfl rfl (A9 rfl (kn rfl) (kn rfl) DP) .nil))))) ?_
 try refine A1 ?_
 refine AE rfl (fun h=>?_) (fun h=>?_)
 ·have e:C9 p l m=false:=I3 (by
   simp only[Bool.not_eq_true',decide_eq_false_iff_not]at h
   omega)
  try refine A1 ?_
  refine A0 (AC rfl rfl rfl rfl rfl .nil) ?_
  try refine A1 ?_
  exact A7 rfl rfl (.tmp (kn rfl) (.nil)) (AR e.symm) rfl
 have hlm:l.length=m.length:=by
  simp only[Bool.not_eq_false',decide_eq_true_eq]at h
  omega
 clear h
 try refine A1 ?_
 refine A0 (A8 rfl rfl rfl rfl rfl (A3 rfl rfl rfl (AW rfl (kn rfl) sle_30) (A8 rfl rfl rfl rfl rfl .nil))) ?_
 try refine A1 ?_
 refine BG (ι:={ k:Nat // k<=l.length/\C9 p l m=C9 p (l.drop k) (m.drop k) })
  (fun k=>[(0,.part (.one (.row 28 l.length (l.flatMap CM)))),(1,.part (.one (.row 28 m.length (m.flatMap CM)))),(2,.part (fP f)),(14,.is (.int .i64 (l.length:Int))),(15,.is (.int .i64 (k.1:Int)))])
  (fun _=>[]) (fun _=>[]) (fun k=>l.length-k.1) ⟨0,by omega,rfl⟩
  (fun K=>AN ⟨s_t,s_t,s_t,s_t,s_t,trivial⟩ trivial trivial) ?_
 rintro⟨k,hk,hw⟩
 dsimp only at hk hw ⊢
 try refine A1 ?_
 refine A0 (A3 rfl rfl rfl (A9 rfl (kn rfl) (kn rfl) BJ) .nil) ?_
 try refine A1 ?_
 refine AE rfl (fun h=>?_) (fun h=>?_)
 ·have hlt:k<l.length:=by have:=of_decide_eq_true h;omega
  obtain⟨x,hx⟩:∃ x,l[k]?=some x:=⟨_,List.getElem?_eq_getElem hlt⟩
  obtain⟨y,hy⟩:∃ y,m[k]?=some y:=⟨_,List.getElem?_eq_getElem (by omega)⟩
  have hs:=IR hx hy hw
  try refine A1 ?_
  refine A0 (A8 rfl rfl rfl rfl rfl (AC rfl rfl rfl rfl rfl .nil)) ?_
  try refine A1 ?_
  refine BZ C8 (by kernel_rfl) (A8 rfl rfl rfl rfl rfl (A8 rfl rfl rfl rfl rfl (A8 rfl rfl rfl rfl rfl (A3 rfl rfl rfl (AQ rfl (kn rfl) (kn rfl) (by omega) hx CS sle_30 esz_30 (CN x)) (A8 rfl rfl rfl rfl rfl (A8 rfl rfl rfl rfl rfl (A3 rfl rfl rfl (AQ rfl (kn rfl) (kn rfl) (by omega) hy CS sle_30 esz_30 (CN y)) (A3 rfl rfl rfl (BO rfl hfc (kn rfl) (h1 x (List.mem_of_getElem? hx) y (List.mem_of_getElem? hy)) ⟨B4 (kn rfl) (Imp.ref_pref _),B4 (kn rfl) (Imp.ref_pref _),trivial⟩) (A3 rfl rfl rfl (DL rfl (kn rfl)) .nil))))))))) ?_
  try refine A1 ?_
  refine AE rfl (fun h3=>?_) (fun h3=>?_)
  ·have e:C9 p l m=false:=by rw[hs,Q0 h3];rfl
   try refine A1 ?_
   refine A0 (AC rfl rfl rfl rfl rfl .nil) ?_
   try refine A1 ?_
   exact A7 rfl rfl (.tmp (kn rfl) (.nil)) (AR e.symm) rfl
  rw[PT h3,Bool.true_and]at hs
  try refine A1 ?_
  refine A0 (A3 rfl rfl rfl (A9 rfl (kn rfl) (kn rfl) (AO (by first | omega | (dsimp only;omega)))) (A8 rfl rfl rfl rfl rfl .nil)) ?_
  try refine A1 ?_
  refine AT ⟨k+1,by omega,hs⟩ (by dsimp only;omega) (fun K=>AN ⟨s_t,s_t,s_t,s_t,s_t,trivial⟩ trivial trivial)
 have e:C9 p l m=true:=LJ hlm (by have:=of_decide_eq_false h;omega) hw
 try refine A1 ?_
 refine A0 (AC rfl rfl rfl rfl rfl .nil) ?_
 try refine A1 ?_
 exact A7 rfl rfl (.tmp (kn rfl) (.nil)) (AR e.symm) rfl
theorem UX(f:FuncId)(hfc:AU Try.prog f=true)(l:List (Int×Ed))(hl:l.length<=80)(g:Int×Ed->Nat)(hb:(l.map g).sum<=100000)(h1:∀ x∈l,EF Try.prog [] f [pP (efd x)] (.part (iP (g x)))):EF Try.prog [] 65 [.one (.row 22 l.length (l.flatMap CP)),fP f] (.part (iP ((l.map g).sum:Nat))):=by
 refine AF 21 Try.func65 rfl rfl rfl fun w D=>?_
 try refine A1 ?_
 refine A0 (AC rfl rfl rfl rfl rfl .nil) ?_
 try refine A1 ?_
 refine A0 (AC rfl rfl rfl rfl rfl .nil) ?_
 try refine A1 ?_
 refine A0 (A8 rfl rfl rfl rfl rfl (A3 rfl rfl rfl (AW rfl (kn rfl) sle_28) (A8 rfl rfl rfl rfl rfl .nil))) ?_
 try refine A1 ?_
 refine BG (ι:={ k:Nat // k<=l.length })
  (fun k=>[(0,.part (.one (.row 22 l.length (l.flatMap CP)))),(1,.part (fP f)),(5,.is (.int .i64 ((((l.take k.1).map g).sum:Nat):Int))),(8,.is (.int .i64 (l.length:Int))),(9,.is (.int .i64 (k.1:Int)))])
  (fun _=>[]) (fun _=>[]) (fun k=>l.length-k.1) ⟨0,by omega⟩
  (fun K=>AN ⟨s_t,s_t,⟨_,rfl,Imp.of_eq rfl⟩,s_t,s_t,trivial⟩ trivial trivial) ?_
 rintro⟨k,hk⟩
 dsimp only at hk ⊢
 try refine A1 ?_
 refine A0 (A3 rfl rfl rfl (A9 rfl (kn rfl) (kn rfl) BJ) .nil) ?_
 try refine A1 ?_
 refine AE rfl (fun h=>?_) (fun h=>?_)
 ·have hlt:k<l.length:=by have:=of_decide_eq_true h;omega
  obtain⟨x,hx⟩:∃ x,l[k]?=some x:=⟨_,List.getElem?_eq_getElem hlt⟩
  have htk:=F4 (f:=g) hx
  have hle:=FM g l (k+1)
  try refine A1 ?_
  refine A0 (A8 rfl rfl rfl rfl rfl (AC rfl rfl rfl rfl rfl .nil)) ?_
  try refine A1 ?_
  refine A0 (A8 rfl rfl rfl rfl rfl (A8 rfl rfl rfl rfl rfl (A8 rfl rfl rfl rfl rfl (A8 rfl rfl rfl rfl rfl (A3 rfl rfl rfl (AQ rfl (kn rfl) (kn rfl) (by omega) hx CQ sle_28 esz_28 (CO x)) (A3 rfl rfl rfl (BO rfl hfc (kn rfl) (h1 x (List.mem_of_getElem? hx)) ⟨B4 (kn rfl) (Imp.ref_pref _),trivial⟩) (A3 rfl rfl rfl (A9 rfl (kn rfl) (kn rfl) (AO (by first | omega | (dsimp only;omega)))) (AC rfl rfl rfl rfl rfl .nil)))))))) ?_
  try refine A1 ?_
  try refine A1 ?_
  refine A0 (A3 rfl rfl rfl (A9 rfl (kn rfl) (kn rfl) (AO (by first | omega | (dsimp only;omega)))) (A8 rfl rfl rfl rfl rfl .nil)) ?_
  try refine A1 ?_
  refine AT ⟨k+1,by omega⟩ (by dsimp only;omega) (fun K=>AN ⟨s_t,s_t,⟨_,rfl,Imp.of_eq (by rw[htk];rfl)⟩,s_t,s_t,trivial⟩ trivial trivial)
 obtain rfl:k=l.length:=by have:=of_decide_eq_false h;omega
 rw[List.take_length]
 try refine A1 ?_
 refine A0 (A8 rfl rfl rfl rfl rfl (AC rfl rfl rfl rfl rfl .nil)) ?_
 try refine A1 ?_
 exact A7 rfl rfl (.tmp (kn rfl) (.nil)) (Imp.of_eq rfl) rfl
theorem SK(f:FuncId)(hfc:AU Try.prog f=true)(l:List (Int×Ed))(hl:l.length<=80)(g:Int×Ed->Nat)(h1:∀ x∈l,EF Try.prog [] f [pP (efd x)] (.part (iP (g x)))):EF Try.prog [] 71 [.one (.row 22 l.length (l.flatMap CP)),fP f] (.part (iP (DI (l.map g):Nat))):=by
 refine AF 21 Try.func71 rfl rfl rfl fun w D=>?_
 try refine A1 ?_
 refine A0 (AC rfl rfl rfl rfl rfl .nil) ?_
 try refine A1 ?_
 refine A0 (AC rfl rfl rfl rfl rfl .nil) ?_
 try refine A1 ?_
 refine A0 (A8 rfl rfl rfl rfl rfl (A3 rfl rfl rfl (AW rfl (kn rfl) sle_28) (A8 rfl rfl rfl rfl rfl .nil))) ?_
 try refine A1 ?_
 refine BG (ι:={ k:Nat // k<=l.length })
  (fun k=>[(0,.part (.one (.row 22 l.length (l.flatMap CP)))),(1,.part (fP f)),(5,.is (.int .i64 ((DI ((l.take k.1).map g):Nat):Int))),(8,.is (.int .i64 (l.length:Int))),(9,.is (.int .i64 (k.1:Int)))])
  (fun _=>[]) (fun _=>[]) (fun k=>l.length-k.1) ⟨0,by omega⟩
  (fun K=>AN ⟨s_t,s_t,⟨_,rfl,Imp.of_eq rfl⟩,s_t,s_t,trivial⟩ trivial trivial) ?_
 rintro⟨k,hk⟩
 dsimp only at hk ⊢
 try refine A1 ?_
 refine A0 (A3 rfl rfl rfl (A9 rfl (kn rfl) (kn rfl) BJ) .nil) ?_
 try refine A1 ?_
 refine AE rfl (fun h=>?_) (fun h=>?_)
 ·have hlt:k<l.length:=by have:=of_decide_eq_true h;omega
  obtain⟨x,hx⟩:∃ x,l[k]?=some x:=⟨_,List.getElem?_eq_getElem hlt⟩
  have htk:=EI (f:=g) hx
  try refine A1 ?_
  refine A0 (A8 rfl rfl rfl rfl rfl (AC rfl rfl rfl rfl rfl .nil)) ?_
  try refine A1 ?_
  refine A0 (A8 rfl rfl rfl rfl rfl (A8 rfl rfl rfl rfl rfl (A8 rfl rfl rfl rfl rfl (A8 rfl rfl rfl rfl rfl (A3 rfl rfl rfl (AQ rfl (kn rfl) (kn rfl) (by omega) hx CQ sle_28 esz_28 (CO x)) (A3 rfl rfl rfl (BO rfl hfc (kn rfl) (h1 x (List.mem_of_getElem? hx)) ⟨B4 (kn rfl) (Imp.ref_pref _),trivial⟩) (A3 rfl rfl rfl (UY rfl (kn rfl) (kn rfl)) (AC rfl rfl rfl rfl rfl .nil)))))))) ?_
  try refine A1 ?_
  try refine A1 ?_
  refine A0 (A3 rfl rfl rfl (A9 rfl (kn rfl) (kn rfl) (AO (by first | omega | (dsimp only;omega)))) (A8 rfl rfl rfl rfl rfl .nil)) ?_
  try refine A1 ?_
  refine AT ⟨k+1,by omega⟩ (by dsimp only;omega) (fun K=>AN ⟨s_t,s_t,⟨_,rfl,Imp.of_eq (by rw[htk];congr 5;omega)⟩,s_t,s_t,trivial⟩ trivial trivial)
 obtain rfl:k=l.length:=by have:=of_decide_eq_false h;omega
 rw[List.take_length]
 try refine A1 ?_
 refine A0 (A8 rfl rfl rfl rfl rfl (AC rfl rfl rfl rfl rfl .nil)) ?_
 try refine A1 ?_
 exact A7 rfl rfl (.tmp (kn rfl) (.nil)) (Imp.of_eq rfl) rfl
theorem UQ(f:FuncId)(hfc:AU Try.prog f=true)(l:List ((Int×Int×Vl)×Ed))(hl:l.length<=80)(g:(Int×Int×Vl)×Ed->Nat)(hb:(l.map g).sum<=100000)(h1:∀ x∈l,EF Try.prog [] f [pP (esd x)] (.part (iP (g x)))):EF Try.prog [] 67 [.one (.row 30 l.length (l.flatMap BF)),fP f] (.part (iP ((l.map g).sum:Nat))):=by
 refine AF 21 Try.func67 rfl rfl rfl fun w D=>?_
 try refine A1 ?_
 refine A0 (AC rfl rfl rfl rfl rfl .nil) ?_
 try refine A1 ?_
 refine A0 (AC rfl rfl rfl rfl rfl .nil) ?_
 try refine A1 ?_
 refine A0 (A8 rfl rfl rfl rfl rfl (A3 rfl rfl rfl (AW rfl (kn rfl) sle_29) (A8 rfl rfl rfl rfl rfl .nil))) ?_
 try refine A1 ?_
 refine BG (ι:={ k:Nat // k<=l.length })
  (fun k=>[(0,.part (.one (.row 30 l.length (l.flatMap BF)))),(1,.part (fP f)),(5,.is (.int .i64 ((((l.take k.1).map g).sum:Nat):Int))),(8,.is (.int .i64 (l.length:Int))),(9,.is (.int .i64 (k.1:Int)))])
  (fun _=>[]) (fun _=>[]) (fun k=>l.length-k.1) ⟨0,by omega⟩
  (fun K=>AN ⟨s_t,s_t,⟨_,rfl,Imp.of_eq rfl⟩,s_t,s_t,trivial⟩ trivial trivial) ?_
 rintro⟨k,hk⟩
 dsimp only at hk ⊢
 try refine A1 ?_
 refine A0 (A3 rfl rfl rfl (A9 rfl (kn rfl) (kn rfl) BJ) .nil) ?_
 try refine A1 ?_
 refine AE rfl (fun h=>?_) (fun h=>?_)
 ·have hlt:k<l.length:=by have:=of_decide_eq_true h;omega
  obtain⟨x,hx⟩:∃ x,l[k]?=some x:=⟨_,List.getElem?_eq_getElem hlt⟩
  have htk:=F4 (f:=g) hx
  have hle:=FM g l (k+1)
  try refine A1 ?_
  refine A0 (A8 rfl rfl rfl rfl rfl (AC rfl rfl rfl rfl rfl .nil)) ?_
  try refine A1 ?_
  refine A0 (A8 rfl rfl rfl rfl rfl (A8 rfl rfl rfl rfl rfl (A8 rfl rfl rfl rfl rfl (A8 rfl rfl rfl rfl rfl (A3 rfl rfl rfl (AQ rfl (kn rfl) (kn rfl) (by omega) hx C2 sle_29 esz_29 (BX x)) (A3 rfl rfl rfl (BO rfl hfc (kn rfl) (h1 x (List.mem_of_getElem? hx)) ⟨B4 (kn rfl) (Imp.ref_pref _),trivial⟩) (A3 rfl rfl rfl (A9 rfl (kn rfl) (kn rfl) (AO (by first | omega | (dsimp only;omega)))) (AC rfl rfl rfl rfl rfl .nil)))))))) ?_
  try refine A1 ?_
  try refine A1 ?_
  refine A0 (A3 rfl rfl rfl (A9 rfl (kn rfl) (kn rfl) (AO (by first | omega | (dsimp only;omega)))) (A8 rfl rfl rfl rfl rfl .nil)) ?_
  try refine A1 ?_
  refine AT ⟨k+1,by omega⟩ (by dsimp only;omega) (fun K=>AN ⟨s_t,s_t,⟨_,rfl,Imp.of_eq (by rw[htk];rfl)⟩,s_t,s_t,trivial⟩ trivial trivial)
 obtain rfl:k=l.length:=by have:=of_decide_eq_false h;omega
 rw[List.take_length]
 try refine A1 ?_
 refine A0 (A8 rfl rfl rfl rfl rfl (AC rfl rfl rfl rfl rfl .nil)) ?_
 try refine A1 ?_
 exact A7 rfl rfl (.tmp (kn rfl) (.nil)) (Imp.of_eq rfl) rfl
theorem T6(f:FuncId)(hfc:AU Try.prog f=true)(l:List ((Int×Int×Vl)×Ed))(hl:l.length<=80)(g:(Int×Int×Vl)×Ed->Nat)(h1:∀ x∈l,EF Try.prog [] f [pP (esd x)] (.part (iP (g x)))):EF Try.prog [] 73 [.one (.row 30 l.length (l.flatMap BF)),fP f] (.part (iP (DI (l.map g):Nat))):=by
 refine AF 21 Try.func73 rfl rfl rfl fun w D=>?_
 try refine A1 ?_
 refine A0 (AC rfl rfl rfl rfl rfl .nil) ?_
 try refine A1 ?_
 refine A0 (AC rfl rfl rfl rfl rfl .nil) ?_
 try refine A1 ?_
 refine A0 (A8 rfl rfl rfl rfl rfl (A3 rfl rfl rfl (AW rfl (kn rfl) sle_29) (A8 rfl rfl rfl rfl rfl .nil))) ?_
 try refine A1 ?_
 refine BG (ι:={ k:Nat // k<=l.length })
  (fun k=>[(0,.part (.one (.row 30 l.length (l.flatMap BF)))),(1,.part (fP f)),(5,.is (.int .i64 ((DI ((l.take k.1).map g):Nat):Int))),(8,.is (.int .i64 (l.length:Int))),(9,.is (.int .i64 (k.1:Int)))])
  (fun _=>[]) (fun _=>[]) (fun k=>l.length-k.1) ⟨0,by omega⟩
  (fun K=>AN ⟨s_t,s_t,⟨_,rfl,Imp.of_eq rfl⟩,s_t,s_t,trivial⟩ trivial trivial) ?_
 rintro⟨k,hk⟩
 dsimp only at hk ⊢
 try refine A1 ?_
 refine A0 (A3 rfl rfl rfl (A9 rfl (kn rfl) (kn rfl) BJ) .nil) ?_
 try refine A1 ?_
 refine AE rfl (fun h=>?_) (fun h=>?_)
 ·have hlt:k<l.length:=by have:=of_decide_eq_true h;omega
  obtain⟨x,hx⟩:∃ x,l[k]?=some x:=⟨_,List.getElem?_eq_getElem hlt⟩
  have htk:=EI (f:=g) hx
  try refine A1 ?_
  refine A0 (A8 rfl rfl rfl rfl rfl (AC rfl rfl rfl rfl rfl .nil)) ?_
  try refine A1 ?_
  refine A0 (A8 rfl rfl rfl rfl rfl (A8 rfl rfl rfl rfl rfl (A8 rfl rfl rfl rfl rfl (A8 rfl rfl rfl rfl rfl (A3 rfl rfl rfl (AQ rfl (kn rfl) (kn rfl) (by omega) hx C2 sle_29 esz_29 (BX x)) (A3 rfl rfl rfl (BO rfl hfc (kn rfl) (h1 x (List.mem_of_getElem? hx)) ⟨B4 (kn rfl) (Imp.ref_pref _),trivial⟩) (A3 rfl rfl rfl (UY rfl (kn rfl) (kn rfl)) (AC rfl rfl rfl rfl rfl .nil)))))))) ?_
  try refine A1 ?_
  try refine A1 ?_
  refine A0 (A3 rfl rfl rfl (A9 rfl (kn rfl) (kn rfl) (AO (by first | omega | (dsimp only;omega)))) (A8 rfl rfl rfl rfl rfl .nil)) ?_
  try refine A1 ?_
  refine AT ⟨k+1,by omega⟩ (by dsimp only;omega) (fun K=>AN ⟨s_t,s_t,⟨_,rfl,Imp.of_eq (by rw[htk];congr 5;omega)⟩,s_t,s_t,trivial⟩ trivial trivial)
 obtain rfl:k=l.length:=by have:=of_decide_eq_false h;omega
 rw[List.take_length]
 try refine A1 ?_
 refine A0 (A8 rfl rfl rfl rfl rfl (AC rfl rfl rfl rfl rfl .nil)) ?_
 try refine A1 ?_
 exact A7 rfl rfl (.tmp (kn rfl) (.nil)) (Imp.of_eq rfl) rfl
theorem UF(f:FuncId)(hfc:AU Try.prog f=true)(l:List (Vl×Ed))(hl:l.length<=80)(g:Vl×Ed->Nat)(hb:(l.map g).sum<=100000)(h1:∀ x∈l,EF Try.prog [] f [pP (ekd x)] (.part (iP (g x)))):EF Try.prog [] 69 [.one (.row 28 l.length (l.flatMap CM)),fP f] (.part (iP ((l.map g).sum:Nat))):=by
 refine AF 21 Try.func69 rfl rfl rfl fun w D=>?_
 try refine A1 ?_
 refine A0 (AC rfl rfl rfl rfl rfl .nil) ?_
 try refine A1 ?_
 refine A0 (AC rfl rfl rfl rfl rfl .nil) ?_
 try refine A1 ?_
 refine A0 (A8 rfl rfl rfl rfl rfl (A3 rfl rfl rfl (AW rfl (kn rfl) sle_30) (A8 rfl rfl rfl rfl rfl .nil))) ?_
 try refine A1 ?_
 refine BG (ι:={ k:Nat // k<=l.length })
  (fun k=>[(0,.part (.one (.row 28 l.length (l.flatMap CM)))),(1,.part (fP f)),(5,.is (.int .i64 ((((l.take k.1).map g).sum:Nat):Int))),(8,.is (.int .i64 (l.length:Int))),(9,.is (.int .i64 (k.1:Int)))])
  (fun _=>[]) (fun _=>[]) (fun k=>l.length-k.1) ⟨0,by omega⟩
  (fun K=>AN ⟨s_t,s_t,⟨_,rfl,Imp.of_eq rfl⟩,s_t,s_t,trivial⟩ trivial trivial) ?_
 rintro⟨k,hk⟩
 dsimp only at hk ⊢
 try refine A1 ?_
 refine A0 (A3 rfl rfl rfl (A9 rfl (kn rfl) (kn rfl) BJ) .nil) ?_
 try refine A1 ?_
 refine AE rfl (fun h=>?_) (fun h=>?_)
 ·have hlt:k<l.length:=by have:=of_decide_eq_true h;omega
  obtain⟨x,hx⟩:∃ x,l[k]?=some x:=⟨_,List.getElem?_eq_getElem hlt⟩
  have htk:=F4 (f:=g) hx
  have hle:=FM g l (k+1)
  try refine A1 ?_
  refine A0 (A8 rfl rfl rfl rfl rfl (AC rfl rfl rfl rfl rfl .nil)) ?_
  try refine A1 ?_
  refine A0 (A8 rfl rfl rfl rfl rfl (A8 rfl rfl rfl rfl rfl (A8 rfl rfl rfl rfl rfl (A8 rfl rfl rfl rfl rfl (A3 rfl rfl rfl (AQ rfl (kn rfl) (kn rfl) (by omega) hx CS sle_30 esz_30 (CN x)) (A3 rfl rfl rfl (BO rfl hfc (kn rfl) (h1 x (List.mem_of_getElem? hx)) ⟨B4 (kn rfl) (Imp.ref_pref _),trivial⟩) (A3 rfl rfl rfl (A9 rfl (kn rfl) (kn rfl) (AO (by first | omega | (dsimp only;omega)))) (AC rfl rfl rfl rfl rfl .nil)))))))) ?_
  try refine A1 ?_
  try refine A1 ?_
  refine A0 (A3 rfl rfl rfl (A9 rfl (kn rfl) (kn rfl) (AO (by first | omega | (dsimp only;omega)))) (A8 rfl rfl rfl rfl rfl .nil)) ?_
  try refine A1 ?_
  refine AT ⟨k+1,by omega⟩ (by dsimp only;omega) (fun K=>AN ⟨s_t,s_t,⟨_,rfl,Imp.of_eq (by rw[htk];rfl)⟩,s_t,s_t,trivial⟩ trivial trivial)
 obtain rfl:k=l.length:=by have:=of_decide_eq_false h;omega
 rw[List.take_length]
 try refine A1 ?_
 refine A0 (A8 rfl rfl rfl rfl rfl (AC rfl rfl rfl rfl rfl .nil)) ?_
 try refine A1 ?_
 exact A7 rfl rfl (.tmp (kn rfl) (.nil)) (Imp.of_eq rfl) rfl
theorem SR(f:FuncId)(hfc:AU Try.prog f=true)(l:List (Vl×Ed))(hl:l.length<=80)(g:Vl×Ed->Nat)(h1:∀ x∈l,EF Try.prog [] f [pP (ekd x)] (.part (iP (g x)))):EF Try.prog [] 75 [.one (.row 28 l.length (l.flatMap CM)),fP f] (.part (iP (DI (l.map g):Nat))):=by
 refine AF 21 Try.func75 rfl rfl rfl fun w D=>?_
 try refine A1 ?_
 refine A0 (AC rfl rfl rfl rfl rfl .nil) ?_
 try refine A1 ?_
 refine A0 (AC rfl rfl rfl rfl rfl .nil) ?_
 try refine A1 ?_
 refine A0 (A8 rfl rfl rfl rfl rfl (A3 rfl rfl rfl (AW rfl (kn rfl) sle_30) (A8 rfl rfl rfl rfl rfl .nil))) ?_
 try refine A1 ?_
 refine BG (ι:={ k:Nat // k<=l.length })
  (fun k=>[(0,.part (.one (.row 28 l.length (l.flatMap CM)))),(1,.part (fP f)),(5,.is (.int .i64 ((DI ((l.take k.1).map g):Nat):Int))),(8,.is (.int .i64 (l.length:Int))),(9,.is (.int .i64 (k.1:Int)))])
  (fun _=>[]) (fun _=>[]) (fun k=>l.length-k.1) ⟨0,by omega⟩
  (fun K=>AN ⟨s_t,s_t,⟨_,rfl,Imp.of_eq rfl⟩,s_t,s_t,trivial⟩ trivial trivial) ?_
 rintro⟨k,hk⟩
 dsimp only at hk ⊢
 try refine A1 ?_
 refine A0 (A3 rfl rfl rfl (A9 rfl (kn rfl) (kn rfl) BJ) .nil) ?_
 try refine A1 ?_
 refine AE rfl (fun h=>?_) (fun h=>?_)
 ·have hlt:k<l.length:=by have:=of_decide_eq_true h;omega
  obtain⟨x,hx⟩:∃ x,l[k]?=some x:=⟨_,List.getElem?_eq_getElem hlt⟩
  have htk:=EI (f:=g) hx
  try refine A1 ?_
  refine A0 (A8 rfl rfl rfl rfl rfl (AC rfl rfl rfl rfl rfl .nil)) ?_
  try refine A1 ?_
  refine A0 (A8 rfl rfl rfl rfl rfl (A8 rfl rfl rfl rfl rfl (A8 rfl rfl rfl rfl rfl (A8 rfl rfl rfl rfl rfl (A3 rfl rfl rfl (AQ rfl (kn rfl) (kn rfl) (by omega) hx CS sle_30 esz_30 (CN x)) (A3 rfl rfl rfl (BO rfl hfc (kn rfl) (h1 x (List.mem_of_getElem? hx)) ⟨B4 (kn rfl) (Imp.ref_pref _),trivial⟩) (A3 rfl rfl rfl (UY rfl (kn rfl) (kn rfl)) (AC rfl rfl rfl rfl rfl .nil)))))))) ?_
  try refine A1 ?_
  try refine A1 ?_
  refine A0 (A3 rfl rfl rfl (A9 rfl (kn rfl) (kn rfl) (AO (by first | omega | (dsimp only;omega)))) (A8 rfl rfl rfl rfl rfl .nil)) ?_
  try refine A1 ?_
  refine AT ⟨k+1,by omega⟩ (by dsimp only;omega) (fun K=>AN ⟨s_t,s_t,⟨_,rfl,Imp.of_eq (by rw[htk];congr 5;omega)⟩,s_t,s_t,trivial⟩ trivial trivial)
 obtain rfl:k=l.length:=by have:=of_decide_eq_false h;omega
 rw[List.take_length]
 try refine A1 ?_
 refine A0 (A8 rfl rfl rfl rfl rfl (AC rfl rfl rfl rfl rfl .nil)) ?_
 try refine A1 ?_
 exact A7 rfl rfl (.tmp (kn rfl) (.nil)) (Imp.of_eq rfl) rfl
end Go.Proofs.Ytecfdcdkkgmkpaa
