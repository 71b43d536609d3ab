/- Part 32. Conditions: as each theorem says. -/
import Derived.Test.YtgcphgdkddihcaaGreatDoorSR31
import Derived.Test.YtgcphgdkddihcaaGreatDoorProg
import Derived.ProofKit
import Derived.OpenShut
import Derived.Carry
import Derived.ChangeSame
set_option maxRecDepth 100000
namespace Go.Proofs.YtgcphgdkddihcaaGreatDoor
open Go.RowKit
abbrev scB(M:List Mg)(E:List En):BL:=[(3,⟨26,bcs (Q7z M E)⟩)]
set_option maxHeartbeats 8000000 in
theorem Q3i{A:Nat->Addr}{m:Int}{gls:List (Nat×List Value)}(hg:OfG gls A m)(hs:∀ x,x∈gC (erA A)->x∈gls)(s:List UInt8)(M:List Mg)(E:List En)(hM:SchOk M E)(h1:EF Tryz.prog gls 8 [sP s] (.tup [TB M E,IS])):
  EF Tryz.prog gls 5 [sP s] (.part (bP true)):=by
 have hal:=P8 hg hs
 have hml:=hM.al
 have hel:=hM.el
 have hle:=hM.le
 have hFl:∀ g∈M,g.fields.length<=100000000000:=fun g hgm=>by have:=(hle.fl g hgm).1;omega
 refine AU 224 Tryz.func5 rfl rfl rfl fun w D=>?_
 try refine A0 ?_
 refine A1 (AE rfl rfl rfl rfl rfl .nil) ?_
 try refine A0 ?_
 refine A1 (A5 rfl rfl rfl (AY rfl (by kernel_rfl) (hal) trivial) (A5 rfl rfl rfl (DL rfl (kn rfl)) .nil)) ?_
 try refine A0 ?_
 refine C1 ?_
 try refine A0 ?_
 refine A1 (AA rfl rfl rfl rfl rfl (A5 rfl rfl rfl (GI rfl (kn rfl) str_9) (A5 rfl rfl rfl (AN rfl (kn rfl) (kn rfl) NO) .nil))) ?_
 try refine A0 ?_
 refine AO rfl (fun _=>?_) (fun _=>?_)
 ·try refine A0 ?_
  refine A1 (AE rfl rfl rfl rfl rfl .nil) ?_
  try refine A0 ?_
  exact AM rfl rfl (.tmp (kn rfl) (.nil)) (Imp.refl _) rfl
 try refine A0 ?_
 refine A8 ?_
 refine AJ ?_
 refine AB (AY rfl (by kernel_rfl) (h1) ⟨(kn rfl),trivial⟩) ?_
 refine AJ ?_
 refine B3 ?_
 refine B3 ?_
 refine AS 3 [.is (.slice none 0 0),.is (.slice none 0 0)] rfl rfl rfl rfl zr_26 (fun w D M V=>⟨rfl,fun j x v h1 h2=>AR _ h1 h2 rfl⟩) rfl rfl rfl rfl ?_
 refine AI rfl rfl rfl (kn rfl) rfl (kn rfl) rfl rfl sz_26 ?_
 refine AG ?_
 refine A6 ?_
 try refine A0 ?_
 refine A1 (AA rfl rfl rfl rfl rfl (A5 rfl rfl rfl (AQ rfl (kn rfl) ifc_28) .nil)) ?_
 try refine A0 ?_
 refine C1 ?_
 try refine A0 ?_
 refine A1 (A5 rfl rfl rfl (A3 rfl (kn rfl) off_26_0) (A5 rfl rfl rfl (A4 rfl (kn rfl) rfl rfl one_23) (A5 rfl rfl rfl (CI rfl (kn rfl) sle_23) (AA rfl rfl rfl rfl rfl .nil)))) ?_
 try refine A0 ?_
 refine CB (ι:={ i:Nat // i<=M.length })
  (fun i=>[(3,.box 3 0),(36,.part (.one (.row 3 M.length (M.flatMap mgD)))),(37,.is (.int .i64 (M.length:Int))),(38,.is (.int .i64 (i.1:Int)))])
  (fun _=>scB M E) (fun _=>[]) (fun i=>M.length-i.1) ⟨0,by omega⟩
  (fun K=>B8 ⟨s_t,s_t,s_t,s_t,trivial⟩ ⟨s_b,trivial⟩ trivial) ?_
 rintro⟨i,hi⟩
 dsimp only at hi ⊢
 try refine A0 ?_
 refine A1 (A5 rfl rfl rfl (AN rfl (kn rfl) (kn rfl) CP) .nil) ?_
 try refine A0 ?_
 refine AO rfl (fun h=>?_) (fun h=>?_)
 ·have hil:i<M.length:=by have:=of_decide_eq_true h;omega
  obtain⟨g,hg⟩:∃ g,M[i]?=some g:=⟨_,List.getElem?_eq_getElem hil⟩
  have hgm:=List.mem_of_getElem? hg
  have hok:=hM.ms g hgm
  have hgl:=hok.len
  have hol:=hok.one
  try refine A0 ?_
  refine A8 ?_
  refine AJ ?_
  refine AB (BO rfl (kn rfl) (kn rfl) (by omega) hg N2 sle_23 esz_23 rfl) ?_
  refine AB (BQ rfl (kn rfl) agg_71 sz_71) ?_
  refine AS 6 [.is (.string ⟨#[]⟩),.is (.slice none 0 0),.is (.slice none 0 0)] rfl rfl rfl rfl zr_71 (fun w D M V=>⟨rfl,fun j x v h1 h2=>AR _ h1 h2 rfl⟩) rfl rfl rfl rfl ?_
  refine AG ?_
  refine AI rfl rfl rfl (kn rfl) rfl (kn rfl) rfl rfl sz_71 ?_
  refine A6 ?_
  try refine A0 ?_
  refine A1 (A5 rfl rfl rfl (A3 rfl (kn rfl) off_71_1) (A5 rfl rfl rfl (A4 rfl (kn rfl) rfl rfl one_69) (A5 rfl rfl rfl (CI rfl (kn rfl) sle_69) (AA rfl rfl rfl rfl rfl .nil)))) ?_
  try refine A0 ?_
  refine CB (ι:={ k:Nat // k<=g.fields.length })
   (fun k=>[(3,.box 3 0),(5,.is (.int .i64 (i:Int))),(6,.box 6 0),(36,.part (.one (.row 3 M.length (M.flatMap mgD)))),(37,.is (.int .i64 (M.length:Int))),(38,.is (.int .i64 (i:Int))),(44,.part (.one (.row 9 g.fields.length (g.fields.flatMap fdD)))),(45,.is (.int .i64 (g.fields.length:Int))),(46,.is (.int .i64 (k.1:Int)))])
   (fun _=>(6,⟨71,bcs (mgD g)⟩)::scB M E) (fun _=>[]) (fun k=>g.fields.length-k.1) ⟨0,by omega⟩
   (fun K=>B8 ⟨s_t,s_t,s_t,s_t,s_t,s_t,s_t,s_t,s_t,trivial⟩ ⟨s_b,s_b,trivial⟩ trivial) ?_
  rintro⟨k,hk⟩
  dsimp only at hk ⊢
  try refine A0 ?_
  refine A1 (A5 rfl rfl rfl (AN rfl (kn rfl) (kn rfl) CP) .nil) ?_
  try refine A0 ?_
  refine AO rfl (fun h=>?_) (fun h=>?_)
  ·have hkl:k<g.fields.length:=by have:=of_decide_eq_true h;omega
   obtain⟨f,hf⟩:∃ f,g.fields[k]?=some f:=⟨_,List.getElem?_eq_getElem hkl⟩
   have hfm:=List.mem_of_getElem? hf
   obtain⟨⟨n1,n2⟩,⟨k1,k2⟩,⟨l1,l2⟩,⟨o1,o2⟩,tm,te,⟨t1,t2⟩,⟨mk1,mk2,mk3⟩,pk,_⟩:=hok.fds f hfm
   have hnm:EV M (i:Int) f.name=some f:=by
    unfold EV
    rw[if_pos (by omega),show((i:Int)).toNat=i from rfl,hg]
    exact Q0F hok hfm
   have hprev:0<k -> ∃ p,g.fields[((k:Int)-1).toNat]?=some p/\p.number<f.number:=fun h0=>by
    have e0:((k:Int)-1).toNat=k-1:=by omega
    rw[e0]
    refine⟨_,List.getElem?_eq_getElem (by omega),?_⟩
    have h3:=List.pairwise_iff_getElem.1 (List.pairwise_map.1 hok.srt) (k-1) k (by omega) hkl (by omega)
    obtain⟨h4,h5⟩:=List.getElem?_eq_some_iff.1 hf
    rw[h5]at h3
    exact h3
   obtain⟨p,hp,hpl⟩:∃ p:Fd,(0<k->g.fields[((k:Int)-1).toNat]?=some p)/\(0<k->p.number<f.number):=by
    by_cases h0:0<k
    ·obtain⟨p,h3,h4⟩:=hprev h0
     exact⟨p,fun _=>h3,fun _=>h4⟩
    ·exact⟨fd0,fun h=>absurd h h0,fun h=>absurd h h0⟩
   clear hprev
   try refine A0 ?_
   refine A8 ?_
   refine AJ ?_
   refine AB (BO rfl (kn rfl) (kn rfl) (by omega) hf G5 sle_69 esz_69 rfl) ?_
   refine AB (BQ rfl (kn rfl) agg_61 sz_61) ?_
   refine AS 8 [.is (.string ⟨#[]⟩),.is (.int .i64 0),.is (.int .i64 0),.is (.int .i64 0),.is (.int .i64 0),.is (.bool false),.is (.int .i64 0),.is (.int .i64 0),.is (.int .i64 0)] rfl rfl rfl rfl zr_61 (fun w D M V=>⟨rfl,fun j x v h1 h2=>AR _ h1 h2 rfl⟩) rfl rfl rfl rfl ?_
   refine AG ?_
   refine AI rfl rfl rfl (kn rfl) rfl (kn rfl) rfl rfl sz_61 ?_
   refine A6 ?_
   try refine A0 ?_
   refine FI mixed (by kernel_rfl) (AA rfl rfl rfl rfl rfl (A5 rfl rfl rfl (AN rfl (kn rfl) (kn rfl) NO) (AA rfl rfl rfl rfl rfl (Walk.gd _ rfl rfl rfl (fun h=>A3 rfl (kn rfl) off_71_1) (Walk.gd _ rfl rfl rfl (fun h=>A4 rfl (A9 rfl h) rfl rfl one_69) (Walk.gd _ rfl rfl rfl (fun h=>C8 rfl (kn rfl)) (Walk.gd _ rfl rfl rfl (fun h=>AN rfl (A9 rfl h) (kn rfl) (WU (by first | omega | (dsimp only;omega)))) (Walk.gd _ rfl rfl rfl (fun h=>BO rfl (A9 rfl h) (A9 rfl h) (by have:=of_decide_eq_true h;omega) (hp (by have:=of_decide_eq_true h;omega)) G5 sle_69 esz_69 rfl) (Walk.gd _ rfl rfl rfl (fun h=>AF rfl (A9 rfl h) off_61_1) (Walk.gd _ rfl rfl rfl (fun h=>AD rfl (A9 rfl h) one_3) (Walk.gd _ rfl rfl rfl (fun h=>A3 rfl (kn rfl) off_61_1) (Walk.gd _ rfl rfl rfl (fun h=>A4 rfl (A9 rfl h) rfl rfl one_3) (Walk.gd _ rfl rfl rfl (fun h=>AN rfl (A9 rfl h) (A9 rfl h) IJ) (A5 rfl rfl rfl (EC rfl (kn rfl) (fun hb=>A9 rfl hb)) (AA rfl rfl rfl rfl rfl (Walk.gd _ rfl rfl rfl (fun h=>A3 rfl (kn rfl) off_61_3) (Walk.gd _ rfl rfl rfl (fun h=>A4 rfl (A9 rfl h) rfl rfl one_3) (Walk.gd _ rfl rfl rfl (fun h=>AN rfl (A9 rfl h) (kn rfl) CP) (A5 rfl rfl rfl (EJ rfl (kn rfl) (fun hb=>A9 rfl hb)) (AA rfl rfl rfl rfl rfl (Walk.gd _ rfl rfl rfl (fun h=>A3 rfl (kn rfl) off_61_3) (Walk.gd _ rfl rfl rfl (fun h=>A4 rfl (A9 rfl h) rfl rfl one_3) (Walk.gd _ rfl rfl rfl (fun h=>AN rfl (A9 rfl h) (kn rfl) NO) (A5 rfl rfl rfl (EJ rfl (kn rfl) (fun hb=>A9 rfl hb)) (AA rfl rfl rfl rfl rfl (Walk.gd _ rfl rfl rfl (fun h=>A3 rfl (kn rfl) off_61_2) (Walk.gd _ rfl rfl rfl (fun h=>A4 rfl (A9 rfl h) rfl rfl one_3) (Walk.gd _ rfl rfl rfl (fun h=>AN rfl (A9 rfl h) (kn rfl) CP) (A5 rfl rfl rfl (EJ rfl (kn rfl) (fun hb=>A9 rfl hb)) (AA rfl rfl rfl rfl rfl (Walk.gd _ rfl rfl rfl (fun h=>A3 rfl (kn rfl) off_61_2) (Walk.gd _ rfl rfl rfl (fun h=>A4 rfl (A9 rfl h) rfl rfl one_3) (Walk.gd _ rfl rfl rfl (fun h=>AN rfl (A9 rfl h) (kn rfl) NO) (A5 rfl rfl rfl (EJ rfl (kn rfl) (fun hb=>A9 rfl hb)) (AA rfl rfl rfl rfl rfl (Walk.gd _ rfl rfl rfl (fun h=>A3 rfl (kn rfl) off_61_8) (Walk.gd _ rfl rfl rfl (fun h=>A4 rfl (A9 rfl h) rfl rfl one_3) (Walk.gd _ rfl rfl rfl (fun h=>AN rfl (A9 rfl h) (kn rfl) CP) (A5 rfl rfl rfl (EJ rfl (kn rfl) (fun hb=>A9 rfl hb)) (AA rfl rfl rfl rfl rfl (Walk.gd _ rfl rfl rfl (fun h=>A3 rfl (kn rfl) off_61_8) (Walk.gd _ rfl rfl rfl (fun h=>A4 rfl (A9 rfl h) rfl rfl one_3) (Walk.gd _ rfl rfl rfl (fun h=>A3 rfl (kn rfl) off_71_2) (Walk.gd _ rfl rfl rfl (fun h=>A4 rfl (A9 rfl h) rfl rfl one_54) (Walk.gd _ rfl rfl rfl (fun h=>CI rfl (A9 rfl h) sle_54) (Walk.gd _ rfl rfl rfl (fun h=>AN rfl (A9 rfl h) (A9 rfl h) NO) (A5 rfl rfl rfl (EJ rfl (kn rfl) (fun hb=>A9 rfl hb)) .nil))))))))))))))))))))))))))))))))))))))))))))))) ?_
   try refine A0 ?_
   refine AO rfl (fun h2=>?_) (fun _=>?_)
   ·exfalso
    simp at h2
    omega
   try refine A0 ?_
   refine A1 (A5 rfl rfl rfl (A3 rfl (kn rfl) off_61_3) (A5 rfl rfl rfl (A4 rfl (kn rfl) rfl rfl one_3) (A5 rfl rfl rfl (AN rfl (kn rfl) (kn rfl) D3) (AA rfl rfl rfl rfl rfl (Walk.gd _ rfl rfl rfl (fun h=>A3 rfl (kn rfl) off_61_4) (Walk.gd _ rfl rfl rfl (fun h=>A4 rfl (A9 rfl h) rfl rfl one_3) (Walk.gd _ rfl rfl rfl (fun h=>AN rfl (A9 rfl h) (kn rfl) CP) (Walk.gd _ rfl rfl rfl (fun h=>C8 rfl (A9 rfl h)) (Walk.gd _ rfl rfl rfl (fun h=>A3 rfl (kn rfl) off_61_4) (Walk.gd _ rfl rfl rfl (fun h=>A4 rfl (A9 rfl h) rfl rfl one_3) (Walk.gd _ rfl rfl rfl (fun h=>A3 rfl (kn rfl) off_26_0) (Walk.gd _ rfl rfl rfl (fun h=>A4 rfl (A9 rfl h) rfl rfl one_23) (Walk.gd _ rfl rfl rfl (fun h=>CI rfl (A9 rfl h) sle_23) (Walk.gd _ rfl rfl rfl (fun h=>AN rfl (A9 rfl h) (A9 rfl h) IJ) (Walk.gd _ rfl rfl rfl (fun h=>EJ rfl (A9 rfl h) (fun hb=>A9 rfl (gb h hb))) (A5 rfl rfl rfl (EC rfl (kn rfl) (fun hb=>A9 rfl hb)) (AA rfl rfl rfl rfl rfl (Walk.gd _ rfl rfl rfl (fun h=>A3 rfl (kn rfl) off_61_3) (Walk.gd _ rfl rfl rfl (fun h=>A4 rfl (A9 rfl h) rfl rfl one_3) (Walk.gd _ rfl rfl rfl (fun h=>AN rfl (A9 rfl h) (kn rfl) D3) (Walk.gd _ rfl rfl rfl (fun h=>C8 rfl (A9 rfl h)) (Walk.gd _ rfl rfl rfl (fun h=>A3 rfl (kn rfl) off_61_4) (Walk.gd _ rfl rfl rfl (fun h=>A4 rfl (A9 rfl h) rfl rfl one_3) (Walk.gd _ rfl rfl rfl (fun h=>AN rfl (A9 rfl h) (kn rfl) CP) (Walk.gd _ rfl rfl rfl (fun h=>C8 rfl (A9 rfl h)) (Walk.gd _ rfl rfl rfl (fun h=>A3 rfl (kn rfl) off_61_4) (Walk.gd _ rfl rfl rfl (fun h=>A4 rfl (A9 rfl h) rfl rfl one_3) (Walk.gd _ rfl rfl rfl (fun h=>A3 rfl (kn rfl) off_26_1) (Walk.gd _ rfl rfl rfl (fun h=>A4 rfl (A9 rfl h) rfl rfl one_24) (Walk.gd _ rfl rfl rfl (fun h=>CI rfl (A9 rfl h) sle_24) (Walk.gd _ rfl rfl rfl (fun h=>AN rfl (A9 rfl h) (A9 rfl h) IJ) (Walk.gd _ rfl rfl rfl (fun h=>EJ rfl (A9 rfl h) (fun hb=>A9 rfl (gb h hb))) (Walk.gd _ rfl rfl rfl (fun h=>EC rfl (A9 rfl h) (fun hb=>A9 rfl (gb h hb))) (A5 rfl rfl rfl (EJ rfl (kn rfl) (fun hb=>A9 rfl hb)) (AA rfl rfl rfl rfl rfl (Walk.gd _ rfl rfl rfl (fun h=>A3 rfl (kn rfl) off_61_7) (Walk.gd _ rfl rfl rfl (fun h=>A4 rfl (A9 rfl h) rfl rfl one_3) (Walk.gd _ rfl rfl rfl (fun h=>AN rfl (A9 rfl h) (kn rfl) NO) (Walk.gd _ rfl rfl rfl (fun h=>A3 rfl (kn rfl) off_61_2) (Walk.gd _ rfl rfl rfl (fun h=>A4 rfl (A9 rfl h) rfl rfl one_3) (Walk.gd _ rfl rfl rfl (fun h=>AN rfl (A9 rfl h) (kn rfl) D3) (Walk.gd _ rfl rfl rfl (fun h=>AN rfl (A9 rfl h) (A9 rfl h) (Q74 bool_4)) (A5 rfl rfl rfl (EJ rfl (kn rfl) (fun hb=>A9 rfl hb)) (AA rfl rfl rfl rfl rfl (Walk.gd _ rfl rfl rfl (fun h=>A3 rfl (kn rfl) off_61_5) (Walk.gd _ rfl rfl rfl (fun h=>A4 rfl (A9 rfl h) rfl rfl one_4) (Walk.gd _ rfl rfl rfl (fun h=>C8 rfl (A9 rfl h)) (Walk.gd _ rfl rfl rfl (fun h=>A3 rfl (kn rfl) off_61_2) (Walk.gd _ rfl rfl rfl (fun h=>A4 rfl (A9 rfl h) rfl rfl one_3) (Walk.gd _ rfl rfl rfl (fun h=>AN rfl (A9 rfl h) (kn rfl) LI) (Walk.gd _ rfl rfl rfl (fun h=>EC rfl (A9 rfl h) (fun hb=>A9 rfl (gb h hb))) (A5 rfl rfl rfl (EJ rfl (kn rfl) (fun hb=>A9 rfl hb)) .nil)))))))))))))))))))))))))))))))))))))))))))))))))))) ?_
   try refine A0 ?_
   refine AO rfl (fun h2=>?_) (fun _=>?_)
   ·exfalso
    by_cases hpk:f.packed=true
    ·have:=pk hpk
     simp[hpk]at h2
     omega
    ·simp[hpk]at h2
     omega
   try refine A0 ?_
   refine A1 (A5 rfl rfl rfl (A3 rfl (kn rfl) off_61_6) (A5 rfl rfl rfl (A4 rfl (kn rfl) rfl rfl one_3) (A5 rfl rfl rfl (AN rfl (kn rfl) (kn rfl) NO) .nil))) ?_
   try refine A0 ?_
   refine AO rfl (fun hky=>?_) (fun hky=>?_)
   ·have hky':0<f.key:=of_decide_eq_true hky
    obtain⟨x,x1,x2,x3,x4⟩:=hM.ky g hgm f hfm hky'
    try refine A0 ?_
    refine A8 ?_
    refine AB (AT (ds:=[_,_]) 2 rfl (kn rfl) rfl rfl agg_26 sz_26 rfl) ?_
    refine AB (A3 rfl (kn rfl) off_61_4) ?_
    refine AB (A4 rfl (kn rfl) rfl rfl one_3) ?_
    refine AB (A3 rfl (kn rfl) off_61_6) ?_
    refine AB (A4 rfl (kn rfl) rfl rfl one_3) ?_
    refine AB (AY rfl (by kernel_rfl) (Q3c gls M (.row 3 E.length (E.flatMap enD)) rfl (by omega) hFl f.type f.key) ⟨(kn rfl),⟨(kn rfl),⟨(kn rfl),trivial⟩⟩⟩) ?_
    refine AJ ?_
    refine B3 ?_
    refine B3 ?_
    refine AS 9 [.is (.string ⟨#[]⟩),.is (.int .i64 0),.is (.int .i64 0),.is (.int .i64 0),.is (.int .i64 0),.is (.bool false),.is (.int .i64 0),.is (.int .i64 0),.is (.int .i64 0)] rfl rfl rfl rfl zr_61 (fun w D M V=>⟨rfl,fun j x v h1 h2=>AR _ h1 h2 rfl⟩) rfl rfl rfl rfl ?_
    refine AI rfl rfl rfl (kn rfl) rfl (kn rfl) rfl rfl sz_61 ?_
    refine AG ?_
    refine A6 ?_
    try refine A0 ?_
    rw[x1]
    refine A1 (AA rfl rfl rfl rfl rfl (A5 rfl rfl rfl (DL rfl (kn rfl)) (AA rfl rfl rfl rfl rfl (Walk.gd _ rfl rfl rfl (fun h=>A3 rfl (kn rfl) off_61_2) (Walk.gd _ rfl rfl rfl (fun h=>A4 rfl (A9 rfl h) rfl rfl one_3) (Walk.gd _ rfl rfl rfl (fun h=>AN rfl (A9 rfl h) (kn rfl) LI) (A5 rfl rfl rfl (EJ rfl (kn rfl) (fun hb=>A9 rfl hb)) (AA rfl rfl rfl rfl rfl (Walk.gd _ rfl rfl rfl (fun h=>A3 rfl (kn rfl) off_61_2) (Walk.gd _ rfl rfl rfl (fun h=>A4 rfl (A9 rfl h) rfl rfl one_3) (Walk.gd _ rfl rfl rfl (fun h=>AN rfl (A9 rfl h) (kn rfl) LI) (A5 rfl rfl rfl (EJ rfl (kn rfl) (fun hb=>A9 rfl hb)) (AA rfl rfl rfl rfl rfl (Walk.gd _ rfl rfl rfl (fun h=>A3 rfl (kn rfl) off_61_8) (Walk.gd _ rfl rfl rfl (fun h=>A4 rfl (A9 rfl h) rfl rfl one_3) (Walk.gd _ rfl rfl rfl (fun h=>AN rfl (A9 rfl h) (kn rfl) LI) (A5 rfl rfl rfl (EJ rfl (kn rfl) (fun hb=>A9 rfl hb)) .nil))))))))))))))))) ?_
    try refine A0 ?_
    refine AO rfl (fun h2=>?_) (fun _=>?_)
    ·exfalso
     simp[x2,x3,x4]at h2
    try refine A0 ?_
    refine A8 ?_
    refine AB (AT (ds:=[_,_]) 2 rfl (kn rfl) rfl rfl agg_26 sz_26 rfl) ?_
    refine AJ ?_
    refine AB (A3 rfl (kn rfl) off_61_0) ?_
    refine AB (A4 rfl (kn rfl) rfl rfl one_9) ?_
    refine AB (AY rfl (by kernel_rfl) (OB gls M (.row 3 E.length (E.flatMap enD)) rfl (by omega) hFl (i:Int) f.name) ⟨(kn rfl),⟨(kn rfl),⟨(kn rfl),trivial⟩⟩⟩) ?_
    refine AJ ?_
    refine B3 ?_
    refine B3 ?_
    refine AS 11 [.is (.string ⟨#[]⟩),.is (.int .i64 0),.is (.int .i64 0),.is (.int .i64 0),.is (.int .i64 0),.is (.bool false),.is (.int .i64 0),.is (.int .i64 0),.is (.int .i64 0)] rfl rfl rfl rfl zr_61 (fun w D M V=>⟨rfl,fun j x v h1 h2=>AR _ h1 h2 rfl⟩) rfl rfl rfl rfl ?_
    refine AI rfl rfl rfl (kn rfl) rfl (kn rfl) rfl rfl sz_61 ?_
    refine AG ?_
    refine A6 ?_
    try refine A0 ?_
    rw[hnm]
    refine A1 (AA rfl rfl rfl rfl rfl (A5 rfl rfl rfl (DL rfl (kn rfl)) (AA rfl rfl rfl rfl rfl (Walk.gd _ rfl rfl rfl (fun h=>AT (ds:=[_,_,_,_,_,_,_,_,_]) 9 rfl (kn rfl) rfl rfl agg_61 sz_61 rfl) (Walk.gd _ rfl rfl rfl (fun h=>AT (ds:=[_,_,_,_,_,_,_,_,_]) 9 rfl (kn rfl) rfl rfl agg_61 sz_61 rfl) (Walk.gd _ rfl rfl rfl (fun h=>Q4X (cs:=fdV f) (ds:=fdV f) rfl (A9 rfl h) (A9 rfl h) (Q3Q f f)) (A5 rfl rfl rfl (EJ rfl (kn rfl) (fun hb=>A9 rfl hb)) .nil))))))) ?_
    try refine A0 ?_
    refine AO rfl (fun h2=>?_) (fun _=>?_)
    ·exfalso
     rw[YH rfl]at h2
     simp at h2
    try refine A0 ?_
    refine A1 (A5 rfl rfl rfl (AN rfl (kn rfl) (kn rfl) (BF (by first | omega | (dsimp only;omega)))) (AA rfl rfl rfl rfl rfl .nil)) ?_
    try refine A0 ?_
    refine BB ⟨k+1,by omega⟩ (by dsimp only;omega) (fun K=>B8 ⟨s_t,s_t,s_t,s_t,s_t,s_t,s_t,s_t,s_t,trivial⟩ ⟨s_b,s_b,trivial⟩ trivial)
   try refine A0 ?_
   refine A8 ?_
   refine AB (AT (ds:=[_,_]) 2 rfl (kn rfl) rfl rfl agg_26 sz_26 rfl) ?_
   refine AJ ?_
   refine AB (A3 rfl (kn rfl) off_61_0) ?_
   refine AB (A4 rfl (kn rfl) rfl rfl one_9) ?_
   refine AB (AY rfl (by kernel_rfl) (OB gls M (.row 3 E.length (E.flatMap enD)) rfl (by omega) hFl (i:Int) f.name) ⟨(kn rfl),⟨(kn rfl),⟨(kn rfl),trivial⟩⟩⟩) ?_
   refine AJ ?_
   refine B3 ?_
   refine B3 ?_
   refine AS 11 [.is (.string ⟨#[]⟩),.is (.int .i64 0),.is (.int .i64 0),.is (.int .i64 0),.is (.int .i64 0),.is (.bool false),.is (.int .i64 0),.is (.int .i64 0),.is (.int .i64 0)] rfl rfl rfl rfl zr_61 (fun w D M V=>⟨rfl,fun j x v h1 h2=>AR _ h1 h2 rfl⟩) rfl rfl rfl rfl ?_
   refine AI rfl rfl rfl (kn rfl) rfl (kn rfl) rfl rfl sz_61 ?_
   refine AG ?_
   refine A6 ?_
   try refine A0 ?_
   rw[hnm]
   refine A1 (AA rfl rfl rfl rfl rfl (A5 rfl rfl rfl (DL rfl (kn rfl)) (AA rfl rfl rfl rfl rfl (Walk.gd _ rfl rfl rfl (fun h=>AT (ds:=[_,_,_,_,_,_,_,_,_]) 9 rfl (kn rfl) rfl rfl agg_61 sz_61 rfl) (Walk.gd _ rfl rfl rfl (fun h=>AT (ds:=[_,_,_,_,_,_,_,_,_]) 9 rfl (kn rfl) rfl rfl agg_61 sz_61 rfl) (Walk.gd _ rfl rfl rfl (fun h=>Q4X (cs:=fdV f) (ds:=fdV f) rfl (A9 rfl h) (A9 rfl h) (Q3Q f f)) (A5 rfl rfl rfl (EJ rfl (kn rfl) (fun hb=>A9 rfl hb)) .nil))))))) ?_
   try refine A0 ?_
   refine AO rfl (fun h2=>?_) (fun _=>?_)
   ·exfalso
    rw[YH rfl]at h2
    simp at h2
   try refine A0 ?_
   refine A1 (A5 rfl rfl rfl (AN rfl (kn rfl) (kn rfl) (BF (by first | omega | (dsimp only;omega)))) (AA rfl rfl rfl rfl rfl .nil)) ?_
   try refine A0 ?_
   refine BB ⟨k+1,by omega⟩ (by dsimp only;omega) (fun K=>B8 ⟨s_t,s_t,s_t,s_t,s_t,s_t,s_t,s_t,s_t,trivial⟩ ⟨s_b,s_b,trivial⟩ trivial)
  obtain rfl:k=g.fields.length:=by have:=of_decide_eq_false h;omega
  try refine A0 ?_
  refine A1 (A5 rfl rfl rfl (AN rfl (kn rfl) (kn rfl) (BF (by first | omega | (dsimp only;omega)))) (AA rfl rfl rfl rfl rfl .nil)) ?_
  try refine A0 ?_
  refine BB ⟨i+1,by omega⟩ (by dsimp only;omega) (fun K=>B8 ⟨s_t,s_t,s_t,s_t,trivial⟩ ⟨s_b,trivial⟩ trivial)
 obtain rfl:i=M.length:=by have:=of_decide_eq_false h;omega
 try refine A0 ?_
 refine A1 (A5 rfl rfl rfl (A3 rfl (kn rfl) off_26_1) (A5 rfl rfl rfl (A4 rfl (kn rfl) rfl rfl one_24) (A5 rfl rfl rfl (CI rfl (kn rfl) sle_24) (AA rfl rfl rfl rfl rfl .nil)))) ?_
 try refine A0 ?_
 refine CB (ι:={ i:Nat // i<=E.length })
  (fun i=>[(197,.part (.one (.row 3 E.length (E.flatMap enD)))),(198,.is (.int .i64 (E.length:Int))),(199,.is (.int .i64 (i.1:Int)))])
  (fun _=>[]) (fun _=>[]) (fun i=>E.length-i.1) ⟨0,by omega⟩
  (fun K=>B8 ⟨s_t,s_t,s_t,trivial⟩ trivial trivial) ?_
 clear hi h
 rintro⟨i,hi⟩
 dsimp only at hi ⊢
 try refine A0 ?_
 refine A1 (A5 rfl rfl rfl (AN rfl (kn rfl) (kn rfl) CP) .nil) ?_
 try refine A0 ?_
 refine AO rfl (fun h=>?_) (fun h=>?_)
 ·have hil:i<E.length:=by have:=of_decide_eq_true h;omega
  obtain⟨e,he⟩:∃ e,E[i]?=some e:=⟨_,List.getElem?_eq_getElem hil⟩
  obtain⟨e1,e2,e3⟩:=hM.es e (List.mem_of_getElem? he)
  have hnl:0<e.numbers.length:=(List.getElem?_eq_some_iff.1 e3).1
  try refine A0 ?_
  refine A8 ?_
  refine AB (BO rfl (kn rfl) (kn rfl) (by omega) he Q54 sle_24 esz_24 rfl) ?_
  refine AB (BQ rfl (kn rfl) agg_74 sz_74) ?_
  refine AS 14 [.is (.string ⟨#[]⟩),.is (.slice none 0 0),.is (.slice none 0 0)] rfl rfl rfl rfl zr_74 (fun w D M V=>⟨rfl,fun j x v h1 h2=>AR _ h1 h2 rfl⟩) rfl rfl rfl rfl ?_
  refine AI rfl rfl rfl (kn rfl) rfl (kn rfl) rfl rfl sz_74 ?_
  refine A6 ?_
  try refine A0 ?_
  refine A1 (A5 rfl rfl rfl (A3 rfl (kn rfl) off_74_2) (A5 rfl rfl rfl (A4 rfl (kn rfl) rfl rfl one_72) (A5 rfl rfl rfl (CI rfl (kn rfl) sle_72) (A5 rfl rfl rfl (AN rfl (kn rfl) (kn rfl) D3) (AA rfl rfl rfl rfl rfl (Walk.gd _ rfl rfl rfl (fun h=>A3 rfl (kn rfl) off_74_2) (Walk.gd _ rfl rfl rfl (fun h=>A4 rfl (A9 rfl h) rfl rfl one_72) (Walk.gd _ rfl rfl rfl (fun h=>BO rfl (A9 rfl h) (kn rfl) (by omega) e3 OV sle_72 esz_72 rfl) (Walk.gd _ rfl rfl rfl (fun h=>AD rfl (A9 rfl h) one_3) (Walk.gd _ rfl rfl rfl (fun h=>AN rfl (A9 rfl h) (kn rfl) LI) (A5 rfl rfl rfl (EJ rfl (kn rfl) (fun hb=>A9 rfl hb)) (AA rfl rfl rfl rfl rfl (Walk.gd _ rfl rfl rfl (fun h=>A3 rfl (kn rfl) off_74_1) (Walk.gd _ rfl rfl rfl (fun h=>A4 rfl (A9 rfl h) rfl rfl one_54) (Walk.gd _ rfl rfl rfl (fun h=>CI rfl (A9 rfl h) sle_54) (Walk.gd _ rfl rfl rfl (fun h=>A3 rfl (kn rfl) off_74_2) (Walk.gd _ rfl rfl rfl (fun h=>A4 rfl (A9 rfl h) rfl rfl one_72) (Walk.gd _ rfl rfl rfl (fun h=>CI rfl (A9 rfl h) sle_72) (Walk.gd _ rfl rfl rfl (fun h=>AN rfl (A9 rfl h) (A9 rfl h) LI) (A5 rfl rfl rfl (EJ rfl (kn rfl) (fun hb=>A9 rfl hb)) .nil)))))))))))))))))))) ?_
  try refine A0 ?_
  refine AO rfl (fun h2=>?_) (fun _=>?_)
  ·exfalso
   have hne:e.numbers≠[]:=fun e0=>by rw[e0]at hnl;exact absurd hnl (by decide)
   simp[hne,e1]at h2
  try refine A0 ?_
  refine A1 (A5 rfl rfl rfl (AN rfl (kn rfl) (kn rfl) (BF (by first | omega | (dsimp only;omega)))) (AA rfl rfl rfl rfl rfl .nil)) ?_
  try refine A0 ?_
  refine BB ⟨i+1,by omega⟩ (by dsimp only;omega) (fun K=>B8 ⟨s_t,s_t,s_t,trivial⟩ trivial trivial)
 try refine A0 ?_
 refine A1 (AE rfl rfl rfl rfl rfl .nil) ?_
 try refine A0 ?_
 exact AM rfl rfl (.tmp (kn rfl) (.nil)) (Imp.refl _) rfl
theorem Q2s{A:Nat->Addr}{m:Int}{gls:List (Nat×List Value)}(hg:OfG gls A m)(hs:∀ x,x∈gC (erA A)->x∈gls)(s:List UInt8)(li co:Int)(e:Er)(h1:EF Tryz.prog gls 8 [sP s] (.tup [TB [] [],.one (sfD li co e)])):
  EF Tryz.prog gls 5 [sP s] (.part (bP true)):=by
 have hal:=P8 hg hs
 refine AU 224 Tryz.func5 rfl rfl rfl fun w D=>?_
 try refine A0 ?_
 refine A1 (AE rfl rfl rfl rfl rfl .nil) ?_
 try refine A0 ?_
 refine A1 (A5 rfl rfl rfl (AY rfl (by kernel_rfl) (hal) trivial) (A5 rfl rfl rfl (DL rfl (kn rfl)) .nil)) ?_
 try refine A0 ?_
 refine C1 ?_
 try refine A0 ?_
 refine A1 (AA rfl rfl rfl rfl rfl (A5 rfl rfl rfl (GI rfl (kn rfl) str_9) (A5 rfl rfl rfl (AN rfl (kn rfl) (kn rfl) NO) .nil))) ?_
 try refine A0 ?_
 refine AO rfl (fun _=>?_) (fun _=>?_)
 ·try refine A0 ?_
  refine A1 (AE rfl rfl rfl rfl rfl .nil) ?_
  try refine A0 ?_
  exact AM rfl rfl (.tmp (kn rfl) (.nil)) (Imp.refl _) rfl
 try refine A0 ?_
 refine A8 ?_
 refine AJ ?_
 refine AB (AY rfl (by kernel_rfl) (h1) ⟨(kn rfl),trivial⟩) ?_
 refine AJ ?_
 refine B3 ?_
 refine B3 ?_
 refine AS 3 [.is (.slice none 0 0),.is (.slice none 0 0)] rfl rfl rfl rfl zr_26 (fun w D M V=>⟨rfl,fun j x v h1 h2=>AR _ h1 h2 rfl⟩) rfl rfl rfl rfl ?_
 refine AI rfl rfl rfl (kn rfl) rfl (kn rfl) rfl rfl sz_26 ?_
 refine AG ?_
 refine A6 ?_
 try refine A0 ?_
 refine A1 (AA rfl rfl rfl rfl rfl (A5 rfl rfl rfl (AP rfl (kn rfl) rfl ifc_28) .nil)) ?_
 try refine A0 ?_
 refine BD ?_
 try refine A0 ?_
 refine A1 (A5 rfl rfl rfl (A3 rfl (kn rfl) off_26_0) (A5 rfl rfl rfl (A4 rfl (kn rfl) rfl rfl one_23) (A5 rfl rfl rfl (CI rfl (kn rfl) sle_23) (A5 rfl rfl rfl (A3 rfl (kn rfl) off_26_1) (A5 rfl rfl rfl (A4 rfl (kn rfl) rfl rfl one_24) (A5 rfl rfl rfl (CI rfl (kn rfl) sle_24) (A5 rfl rfl rfl (AN rfl (kn rfl) (kn rfl) (BF ⟨by decide,by decide⟩)) (A5 rfl rfl rfl (AN rfl (kn rfl) (kn rfl) D3) (AE rfl rfl rfl rfl rfl .nil))))))))) ?_
 try refine A0 ?_
 exact AM rfl rfl (.tmp (kn rfl) (.nil)) (Imp.of_eq (by rfl)) rfl
theorem Q5C{gls:List (Nat×List Value)}{A:Nat->Addr}{m:Int}(hg:OfG gls A m)(hs:∀ x,x∈gC (erA A)->x∈gls)(s:List UInt8):(∃ M E,SchOk M E/\EF Tryz.prog gls 8 [sP s] (.tup [TB M E,IS])) \/ ∃ li co e,EF Tryz.prog gls 8 [sP s] (.tup [TB [] [],.one (sfD li co e)]):=by
 have bad:∀ (f:Fil) (k li co:Nat),EF Tryz.prog gls 10 [sP s] (V3 A (f,k+1,li,co))->(∃ M E,SchOk M E/\EF Tryz.prog gls 8 [sP s] (.tup [TB M E,IS])) \/ ∃ li co e,EF Tryz.prog gls 8 [sP s] (.tup [TB [] [],.one (sfD li co e)]):=fun f k li co h1=>by
  have e1:V3 A (f,k+1,li,co)=.tup [FQ f,Q6e A li co (k+1)]:=by
   unfold V3
   rw[if_neg (by dsimp only;omega)]
  rw[e1]at h1
  exact .inr ⟨_,_,_,Q2e f li co (erA A (k+1)) s h1⟩
 by_cases hl:s.length<=4000
 ·obtain⟨T,b,ea,hT⟩:=Q2k s s.length 0 (by omega)
  have h1:=Q7H hg s hl T b ea hT
  by_cases h0:b=0
  ·have ha:Q15 s T b ea=K8 (CT s T):=if_pos h0
   have hk:=T7 hl hT
   cases hf:FT (CT s T)with
   | ok f=>
    rw[ha,LZ hf]at h1
    obtain⟨h3,h4⟩:=ZG (by decide) hk.len (KA hT) hf
    have hgd:=ZP (XI hl hT) hf
    have c2:=ZI (erA A) 40 (by decide) f h3 hgd s hs h1
    cases hr:PB f with
    | ok p=>
     obtain⟨M,E⟩:=p
     rw[hr]at c2
     exact .inl ⟨M,E,Q3x h3.fine hgd hr,c2⟩
    | error x=>
     rw[hr]at c2
     exact .inr ⟨_,_,_,c2⟩
   | error e=>
    obtain⟨hp,hc⟩:=RF hf
    rw[ha,hp]at h1
    rcases hc with hc | hc
    ·rw[hc]at h1
     exact bad _ 7 _ _ h1
    ·rw[hc]at h1
     exact bad _ 8 _ _ h1
  ·have ha:Q15 s T b ea=(TW,b,(BW s ea).1,(BW s ea).2):=if_neg h0
   rw[ha]at h1
   obtain⟨k,rfl⟩:∃ k,b=k+1:=⟨b-1,by omega⟩
   exact bad _ k _ _ h1
 ·exact bad TW 2 0 0 (Q8h hg s (by omega))
theorem Q1g(w:World)(A:Nat->Addr)(m:Int)(hW:GlW w A m)(s:List UInt8):Calls Tryz.prog 5 #[.string (str s)] w fun e w'=>e=.returned (.bool true)/\Below w.heap.size w w':=by
 have hE:EF Tryz.prog (glS A m) 5 [sP s] (.part (bP true)):=by
  rcases Q5C (Q0b A m) (WM A m) s with⟨M,E,hM,h2⟩ | ⟨li,co,e,h2⟩
  ·exact Q3i (Q0b A m) (WM A m) s M E hM h2
  ·exact Q2s (Q0b A m) (WM A m) s li co e h2
 refine(hE w (fun _=>False) [.string (str s)] (fun g h=>h.elim) (Q63 hW) ⟨.cell _,trivial⟩).mono ?_
 rintro e w' ⟨v,y,rfl,rfl,hb,hv⟩
 have hv1:Lies w' _ (.cell (.bool true)) v:=hv (fun _=>0) (fun _=>undef)
 exact⟨by rw[hv1.cell_eq],hb⟩
section
open Go.ChangeShapes Go.WideShapes Go.ChangeAt Go.RowKit
section
variable{H:Type}{enc:TypeId×Value->H}{P:Program}
theorem N0(hl:laidOutB P=true){W W':World}(hb:Below W.heap.size W W'){sp:Nat->Bool}:∀ {ts:List TypeId} {vs:List Value} {ds:List (DataW H)} {ps:List MemPlace},
  (ts.all fun t=>P.readableRec t&&decide (t<P.types.size))=true->DataW.TrodAll enc P W 0 (fun _=>true) true ts vs ds ps->(∀ p∈ps,p.block<W.heap.size)->(∀ p∈ps,sp p.block=true) ->
  DataW.TrodAll enc P W' 0 sp true ts vs ds ps
 | [],_,_,_,_,h,_,_=>by
  obtain⟨rfl,rfl,rfl⟩:=trodAll_nil h
  exact trodAll_mk0
 | t::ts,_,_,_,ht,h,hlt,hsp=>by
  simp only[List.all_cons,Bool.and_eq_true,decide_eq_true_eq]at ht
  obtain⟨v,vs,d,ds,p,q,rfl,rfl,rfl,h0,hr⟩:=trodAll_cons h
  exact trodAll_cons_mk (WideElems.Trod_stays hl ht.1.1 ht.1.2 h0 (fun x hx=>hb.same (hlt x (List.mem_append_left _ hx))) (fun x hx=>hsp x (List.mem_append_left _ hx)))
   (N0 hl hb ht.2 hr (fun x hx=>hlt x (List.mem_append_right _ hx)) (fun x hx=>hsp x (List.mem_append_right _ hx)))
theorem Q3S{f:Func}{s:ChangeSpec}{W W':World}{args:Array Value}{ds:List (DataW H)}{before:List MemPlace}
  (hl:laidOutB P=true) (ht:(f.params.toList.all fun t=>P.readableRec t&&decide (t<P.types.size))=true)
  (hvars:s.vars=[]) (hs:s.fn H (ds++[])={ results:=[.lit (.bool true)],args:=ds }) {tb:TypeId} (hres:f.resultTypes = #[tb]) (hbool:P.underlying tb=some .bool)
  (hW:DataW.Whole enc P f.params.toList s.vars false W args.toList ds [] before)
  (hA:DataW.TrodAll enc P W 0 (fun _=>true) true f.params.toList args.toList ds before) (hb:Below W.heap.size W W'):
  s.post enc P f false true false false W args (.bool true) W':=by
 have hlt:∀ p∈before,p.block<W.heap.size:=fun p hp=>hW.lt p hp
 have e1:(Value.bool true).resultList f.resultTypes.size=[Value.bool true]:=by rw[hres];rfl
 refine⟨ds,[],before,[],before,[],hW,?_,?_,?_,World.keptBut_mono (fun p hp=>⟨hp,by simpa using hp⟩) (hb.frame (· ∈ before)),fun h=>by cases h⟩
 ·rw[hs,e1,hres]
  exact trodAll_mk1 (shut_bool hbool _)
 ·rw[hs]
  exact N0 hl hb ht hA hlt (fun p hp=>by simpa using hlt p hp)
 ·rw[hs,hvars]
  rfl
end
end
end Go.Proofs.YtgcphgdkddihcaaGreatDoor
