/- Part 20. Conditions: as each theorem says. -/
import Derived.Test.YtojdpgeeajaojaaGreatET19
import Derived.Test.YtojdpgeeajaojaaGreatProg
set_option maxRecDepth 100000
namespace Go.Proofs.YtojdpgeeajaojaaGreat
open Go.RowKit
theorem IN{α:Type}{g:Ed->Int->Int}{bad:α->Bool}{xs:List (α×Ed)}{l:Int}{k:Nat}{x:α×Ed}(h:xs[k]?=some x)(h0:0<=BG g bad (xs.take k) l)(hb:bad x.1=true):BG g bad xs l = -1:=by
 rw[MH xs (k+1) l,ED h,if_pos h0,if_pos hb,E5 _ (by decide)]
def EGr(d:Nat):Prop:=∀ (e:Ed) (left:Int),e.Fine->0<=left->left<=80->EF Tryz.prog [] 16 [.many (ed e),iP left,iP (d:Int)] (.part (iP (C1 d e left)))
theorem O6:EGr 0:=by
 intro e left hf h0 h1
 obtain⟨_,o1,o2,_⟩:=hf.all
 refine AG 107 Tryz.func16 rfl rfl rfl fun w D=>?_
 try refine A3 ?_
 refine AI ?_
 refine B9 3 rfl rfl rfl rfl (kn rfl) rfl rfl rfl rfl ?_
 refine BX ?_
 refine AM ?_
 try refine A3 ?_
 refine A2 (A9 rfl rfl rfl rfl rfl (A4 rfl rfl rfl (A6 rfl (kn rfl) (kn rfl) AP) (A9 rfl rfl rfl rfl rfl (Walk.gd _ rfl rfl rfl (fun h=>A1 rfl (kn rfl) off_32_5) (Walk.gd _ rfl rfl rfl (fun h=>A5 rfl (A0 rfl h) rfl rfl one_9) (Walk.gd _ rfl rfl rfl (fun h=>DB rfl (A0 rfl h) str_9) (Walk.gd _ rfl rfl rfl (fun h=>A6 rfl (A0 rfl h) (kn rfl) BN) (A4 rfl rfl rfl (BO rfl (kn rfl) (fun hb=>A0 rfl hb)) (A9 rfl rfl rfl rfl rfl (Walk.gd _ rfl rfl rfl (fun h=>A1 rfl (kn rfl) off_32_6) (Walk.gd _ rfl rfl rfl (fun h=>A5 rfl (A0 rfl h) rfl rfl one_9) (Walk.gd _ rfl rfl rfl (fun h=>DB rfl (A0 rfl h) str_9) (Walk.gd _ rfl rfl rfl (fun h=>A6 rfl (A0 rfl h) (kn rfl) BN) (A4 rfl rfl rfl (BO rfl (kn rfl) (fun hb=>A0 rfl hb)) (A9 rfl rfl rfl rfl rfl (Walk.gd _ rfl rfl rfl (fun h=>A1 rfl (kn rfl) off_32_1) (Walk.gd _ rfl rfl rfl (fun h=>A7 (ds:=[_,_,_,_,_,_,_]) 7 rfl (A0 rfl h) rfl rfl agg_27 sz_27 rfl) (Walk.gd _ rfl rfl rfl (fun h=>AD rfl (by kernel_rfl) (I1 e.old 60 o1 (by decide) (by decide)) ⟨(A0 rfl h),⟨(kn rfl),trivial⟩⟩) (A4 rfl rfl rfl (BO rfl (kn rfl) (fun hb=>A0 rfl hb)) (A9 rfl rfl rfl rfl rfl (Walk.gd _ rfl rfl rfl (fun h=>A1 rfl (kn rfl) off_32_2) (Walk.gd _ rfl rfl rfl (fun h=>A7 (ds:=[_,_,_,_,_,_,_]) 7 rfl (A0 rfl h) rfl rfl agg_27 sz_27 rfl) (Walk.gd _ rfl rfl rfl (fun h=>AD rfl (by kernel_rfl) (I1 e.new 60 o2 (by decide) (by decide)) ⟨(A0 rfl h),⟨(kn rfl),trivial⟩⟩) (A4 rfl rfl rfl (BO rfl (kn rfl) (fun hb=>A0 rfl hb)) .nil)))))))))))))))))))))))) ?_
 try refine A3 ?_
 refine AB rfl (fun h=>?_) (fun h=>?_)
 ·try refine A3 ?_
  refine A2 (AC rfl rfl rfl rfl rfl .nil) ?_
  try refine A3 ?_
  exact A8 rfl rfl (.tmp (kn rfl) (.nil)) (Imp.of_eq rfl) rfl
 ·simp at h
set_option maxHeartbeats 4000000 in
theorem NO(d:Nat)(hd:d<=1000)(ih:EGr d):EGr (d+1):=by
 intro e left hf h0 h1
 have hmax:maxLen<=9223372036854775807:=by decide
 obtain⟨k1,o1,o2,⟨l1,l2,l3,l4,l5⟩,k2,k3,k4⟩:=hf.all
 have q:C1 (d+1) e left=if NJ e then -1 else BG (C1 d) NV e.keys (BG (C1 d) K3 e.steps (BG (C1 d) (fun _=>false) e.fields (left-1))):=rfl
 refine AG 107 Tryz.func16 rfl rfl rfl fun w D=>?_
 try refine A3 ?_
 refine AI ?_
 refine B9 3 rfl rfl rfl rfl (kn rfl) rfl rfl rfl rfl ?_
 refine BX ?_
 refine AM ?_
 try refine A3 ?_
 refine A2 (A9 rfl rfl rfl rfl rfl (A4 rfl rfl rfl (A6 rfl (kn rfl) (kn rfl) AP) (A9 rfl rfl rfl rfl rfl (Walk.gd _ rfl rfl rfl (fun h=>A1 rfl (kn rfl) off_32_5) (Walk.gd _ rfl rfl rfl (fun h=>A5 rfl (A0 rfl h) rfl rfl one_9) (Walk.gd _ rfl rfl rfl (fun h=>DB rfl (A0 rfl h) str_9) (Walk.gd _ rfl rfl rfl (fun h=>A6 rfl (A0 rfl h) (kn rfl) BN) (A4 rfl rfl rfl (BO rfl (kn rfl) (fun hb=>A0 rfl hb)) (A9 rfl rfl rfl rfl rfl (Walk.gd _ rfl rfl rfl (fun h=>A1 rfl (kn rfl) off_32_6) (Walk.gd _ rfl rfl rfl (fun h=>A5 rfl (A0 rfl h) rfl rfl one_9) (Walk.gd _ rfl rfl rfl (fun h=>DB rfl (A0 rfl h) str_9) (Walk.gd _ rfl rfl rfl (fun h=>A6 rfl (A0 rfl h) (kn rfl) BN) (A4 rfl rfl rfl (BO rfl (kn rfl) (fun hb=>A0 rfl hb)) (A9 rfl rfl rfl rfl rfl (Walk.gd _ rfl rfl rfl (fun h=>A1 rfl (kn rfl) off_32_1) (Walk.gd _ rfl rfl rfl (fun h=>A7 (ds:=[_,_,_,_,_,_,_]) 7 rfl (A0 rfl h) rfl rfl agg_27 sz_27 rfl) (Walk.gd _ rfl rfl rfl (fun h=>AD rfl (by kernel_rfl) (I1 e.old 60 o1 (by decide) (by decide)) ⟨(A0 rfl h),⟨(kn rfl),trivial⟩⟩) (A4 rfl rfl rfl (BO rfl (kn rfl) (fun hb=>A0 rfl hb)) (A9 rfl rfl rfl rfl rfl (Walk.gd _ rfl rfl rfl (fun h=>A1 rfl (kn rfl) off_32_2) (Walk.gd _ rfl rfl rfl (fun h=>A7 (ds:=[_,_,_,_,_,_,_]) 7 rfl (A0 rfl h) rfl rfl agg_27 sz_27 rfl) (Walk.gd _ rfl rfl rfl (fun h=>AD rfl (by kernel_rfl) (I1 e.new 60 o2 (by decide) (by decide)) ⟨(A0 rfl h),⟨(kn rfl),trivial⟩⟩) (A4 rfl rfl rfl (BO rfl (kn rfl) (fun hb=>A0 rfl hb)) .nil)))))))))))))))))))))))) ?_
 try refine A3 ?_
 refine AB rfl (fun h=>?_) (fun h=>?_)
 ·have hb:NJ e=true:=by
   simp only[Bool.or_eq_true,decide_eq_true_eq]at h
   simp only[NJ,Bool.or_eq_true,decide_eq_true_eq]
   rcases h with(((h | h) | h) | h) | h
   ·omega
   ·exact .inl (.inl (.inl (by omega)))
   ·exact .inl (.inl (.inr (by omega)))
   ·exact .inl (.inr h)
   ·exact .inr h
  rw[if_pos hb]at q
  try refine A3 ?_
  refine A2 (AC rfl rfl rfl rfl rfl .nil) ?_
  try refine A3 ?_
  exact A8 rfl rfl (.tmp (kn rfl) (.nil)) (Imp.of_eq (by rw[q];rfl)) rfl
 have hb:NJ e=false:=by
  simp only[Bool.or_eq_false_iff,decide_eq_false_iff_not]at h
  simp only[NJ,Bool.or_eq_false_iff,decide_eq_false_iff_not]
  exact⟨⟨⟨by omega,by omega⟩,h.1.2⟩,h.2⟩
 rw[if_neg (by rw[hb];decide)]at q
 clear h
 try refine A3 ?_
 refine A2 (A9 rfl rfl rfl rfl rfl (A4 rfl rfl rfl (A6 rfl (kn rfl) (kn rfl) (CV (by first | omega | (dsimp only;omega)))) (AC rfl rfl rfl rfl rfl .nil))) ?_
 try refine A3 ?_
 refine A2 (A4 rfl rfl rfl (A1 rfl (kn rfl) off_32_3) (A4 rfl rfl rfl (A5 rfl (kn rfl) rfl rfl one_28) (A4 rfl rfl rfl (AR rfl (kn rfl) sle_28) (A9 rfl rfl rfl rfl rfl .nil)))) ?_
 try refine A3 ?_
 refine AX (ι:={ k:Nat // k<=(e.fields).length })
  (fun k=>[(1,.is (.int .i64 (BG (C1 d) (fun _=>false) ((e.fields).take k.1) (left-1)))),(2,.is (.int .i64 ((d+1:Nat):Int))),(3,.box 3 0),(40,.part (.one (.row 22 (e.fields).length ((e.fields).flatMap CT)))),(41,.is (.int .i64 ((e.fields).length:Int))),(42,.is (.int .i64 (k.1:Int)))])
  (fun _=>[(3,⟨32,bcs (ed e)⟩)]) (fun _=>[]) (fun k=>(e.fields).length-k.1) ⟨0,by omega⟩
  (fun K=>AL ⟨s_t,s_t,s_t,s_t,s_t,s_t,trivial⟩ ⟨s_b,trivial⟩ trivial) ?_
 rintro⟨k,hk⟩
 dsimp only at hk ⊢
 try refine A3 ?_
 refine A2 (A4 rfl rfl rfl (A6 rfl (kn rfl) (kn rfl) AY) .nil) ?_
 try refine A3 ?_
 refine AB rfl (fun h=>?_) (fun h=>?_)
 ·have hlt:k<(e.fields).length:=by have:=of_decide_eq_true h;omega
  obtain⟨x,hx⟩:∃ x,(e.fields)[k]?=some x:=⟨_,List.getElem?_eq_getElem hlt⟩
  have mx:=List.mem_of_getElem? hx
  have htk:=ED (g:=C1 d) (bad:=(fun _=>false)) (l:=(left-1)) hx
  obtain⟨b1,b2⟩:=EY (d:=d) (bad:=(fun _=>false)) ((e.fields).take k) (left-1) (fun p hp=>hf.kid (Ed.kid_f (List.mem_of_mem_take hp))) (by omega)
  try refine A3 ?_
  refine AI ?_
  refine AQ (AJ rfl (kn rfl) (kn rfl) (by omega) hx BT sle_28 esz_28 (C0 x)) ?_
  refine AQ (AH rfl (kn rfl) agg_57 sz_57) ?_
  refine AW 8 [.is (.int .i64 0),.is (.int .i64 0),.is (.int .i64 0),.is (.int .u64 0),.is (.string ⟨#[]⟩),.is (.slice none 0 0),.is (.string ⟨#[]⟩),.is (.slice none 0 0),.is (.slice none 0 0),.is (.int .i64 0),.is (.int .u64 0),.is (.string ⟨#[]⟩),.is (.slice none 0 0),.is (.string ⟨#[]⟩),.is (.slice none 0 0),.is (.slice none 0 0),.is (.slice none 0 0),.is (.bool false),.is (.string ⟨#[]⟩),.is (.string ⟨#[]⟩),.is (.slice none 0 0),.is (.slice none 0 0)] rfl rfl rfl rfl zr_57 (fun w D M V=>⟨rfl,fun j x v h1 h2=>AV _ h1 h2 rfl⟩) rfl rfl rfl rfl ?_
  refine AT rfl rfl rfl (kn rfl) rfl (kn rfl) rfl rfl sz_57 ?_
  refine AM ?_
  try refine A3 ?_
  refine A2 (A9 rfl rfl rfl rfl rfl (A4 rfl rfl rfl (A6 rfl (kn rfl) (kn rfl) CM) .nil)) ?_
  try refine A3 ?_
  refine AB rfl (fun h2=>?_) (fun h2=>?_)
  ·have h3:=of_decide_eq_true h2
   try refine A3 ?_
   refine A2 (A4 rfl rfl rfl (A1 rfl (kn rfl) off_57_1) (A4 rfl rfl rfl (A7 (ds:=[_,_,_,_,_,_,_,_,_,_,_,_,_,_,_,_,_,_,_,_,_]) 21 rfl (kn rfl) rfl rfl agg_32 sz_32 rfl) (A9 rfl rfl rfl rfl rfl (A9 rfl rfl rfl rfl rfl (A4 rfl rfl rfl (A6 rfl (kn rfl) (kn rfl) (K2 d hd)) (A4 rfl rfl rfl (AD rfl (by kernel_rfl) (ih x.2 _ (hf.kid (Ed.kid_f mx)) h3 (by omega)) ⟨(kn rfl),⟨(kn rfl),⟨(kn rfl),trivial⟩⟩⟩) (AC rfl rfl rfl rfl rfl .nil))))))) ?_
   try refine A3 ?_
   try refine A3 ?_
   refine A2 (A4 rfl rfl rfl (A6 rfl (kn rfl) (kn rfl) (AK (by first | omega | (dsimp only;omega)))) (A9 rfl rfl rfl rfl rfl .nil)) ?_
   try refine A3 ?_
   refine AS ⟨k+1,by omega⟩ (by dsimp only;omega) (fun K=>AL ⟨⟨_,rfl,Imp.of_eq (by rw[htk,if_pos h3,if_neg (by decide)])⟩,s_t,s_t,s_t,s_t,s_t,trivial⟩ ⟨s_b,trivial⟩ trivial)
  have h3:=of_decide_eq_false h2
  try refine A3 ?_
  refine A2 (A4 rfl rfl rfl (A6 rfl (kn rfl) (kn rfl) (AK (by first | omega | (dsimp only;omega)))) (A9 rfl rfl rfl rfl rfl .nil)) ?_
  try refine A3 ?_
  refine AS ⟨k+1,by omega⟩ (by dsimp only;omega) (fun K=>AL ⟨⟨_,rfl,Imp.of_eq (by rw[htk,if_neg h3])⟩,s_t,s_t,s_t,s_t,s_t,trivial⟩ ⟨s_b,trivial⟩ trivial)
 obtain rfl:k=e.fields.length:=by have:=of_decide_eq_false h;omega
 rw[List.take_length]
 obtain⟨F1,F2⟩:=EY (d:=d) (bad:=fun _:Int=>false) e.fields (left-1) (fun p hp=>hf.kid (Ed.kid_f hp)) (by omega)
 generalize BG (C1 d) (fun _=>false) e.fields (left-1)=F at *
 try refine A3 ?_
 refine A2 (A4 rfl rfl rfl (A1 rfl (kn rfl) off_32_7) (A4 rfl rfl rfl (A5 rfl (kn rfl) rfl rfl one_29) (A4 rfl rfl rfl (AR rfl (kn rfl) sle_29) (A9 rfl rfl rfl rfl rfl .nil)))) ?_
 try refine A3 ?_
 refine AX (ι:={ k:Nat // k<=(e.steps).length })
  (fun k=>[(1,.is (.int .i64 (BG (C1 d) K3 ((e.steps).take k.1) F))),(2,.is (.int .i64 ((d+1:Nat):Int))),(3,.box 3 0),(56,.part (.one (.row 30 (e.steps).length ((e.steps).flatMap CA)))),(57,.is (.int .i64 ((e.steps).length:Int))),(58,.is (.int .i64 (k.1:Int)))])
  (fun _=>[(3,⟨32,bcs (ed e)⟩)]) (fun _=>[]) (fun k=>(e.steps).length-k.1) ⟨0,by omega⟩
  (fun K=>AL ⟨s_t,s_t,s_t,s_t,s_t,s_t,trivial⟩ ⟨s_b,trivial⟩ trivial) ?_
 rintro⟨k,hk⟩
 dsimp only at hk ⊢
 try refine A3 ?_
 refine A2 (A4 rfl rfl rfl (A6 rfl (kn rfl) (kn rfl) AY) .nil) ?_
 try refine A3 ?_
 refine AB rfl (fun h=>?_) (fun h=>?_)
 ·have hlt:k<(e.steps).length:=by have:=of_decide_eq_true h;omega
  obtain⟨x,hx⟩:∃ x,(e.steps)[k]?=some x:=⟨_,List.getElem?_eq_getElem hlt⟩
  have mx:=List.mem_of_getElem? hx
  have htk:=ED (g:=C1 d) (bad:=K3) (l:=F) hx
  obtain⟨b1,b2⟩:=EY (d:=d) (bad:=K3) ((e.steps).take k) F (fun p hp=>hf.kid (Ed.kid_s (List.mem_of_mem_take hp))) (by omega)
  try refine A3 ?_
  refine AI ?_
  refine AQ (AJ rfl (kn rfl) (kn rfl) (by omega) hx BM sle_29 esz_29 (BR x)) ?_
  refine AQ (AH rfl (kn rfl) agg_77 sz_77) ?_
  refine AW 10 [.is (.int .i64 0),.is (.int .i64 0),.is (.int .i64 0),.is (.int .u64 0),.is (.string ⟨#[]⟩),.is (.slice none 0 0),.is (.string ⟨#[]⟩),.is (.slice none 0 0),.is (.slice none 0 0),.is (.int .i64 0),.is (.int .i64 0),.is (.int .u64 0),.is (.string ⟨#[]⟩),.is (.slice none 0 0),.is (.string ⟨#[]⟩),.is (.slice none 0 0),.is (.slice none 0 0),.is (.int .i64 0),.is (.int .u64 0),.is (.string ⟨#[]⟩),.is (.slice none 0 0),.is (.string ⟨#[]⟩),.is (.slice none 0 0),.is (.slice none 0 0),.is (.slice none 0 0),.is (.bool false),.is (.string ⟨#[]⟩),.is (.string ⟨#[]⟩),.is (.slice none 0 0),.is (.slice none 0 0)] rfl rfl rfl rfl zr_77 (fun w D M V=>⟨rfl,fun j x v h1 h2=>AV _ h1 h2 rfl⟩) rfl rfl rfl rfl ?_
  refine AT rfl rfl rfl (kn rfl) rfl (kn rfl) rfl rfl sz_77 ?_
  refine AM ?_
  try refine A3 ?_
  refine A2 (A9 rfl rfl rfl rfl rfl (A4 rfl rfl rfl (A6 rfl (kn rfl) (kn rfl) CM) (A9 rfl rfl rfl rfl rfl (Walk.gd _ rfl rfl rfl (fun h=>A1 rfl (kn rfl) off_77_2) (Walk.gd _ rfl rfl rfl (fun h=>A7 (ds:=[_,_,_,_,_,_,_]) 7 rfl (A0 rfl h) rfl rfl agg_27 sz_27 rfl) (Walk.gd _ rfl rfl rfl (fun h=>AD rfl (by kernel_rfl) (I1 x.1.2.2 60 (k3 x mx).2.2 (by decide) (by decide)) ⟨(A0 rfl h),⟨(kn rfl),trivial⟩⟩) (Walk.gd _ rfl rfl rfl (fun h=>AN rfl (A0 rfl h)) (Walk.gd _ rfl rfl rfl (fun h=>A1 rfl (kn rfl) off_77_1) (Walk.gd _ rfl rfl rfl (fun h=>A5 rfl (A0 rfl h) rfl rfl one_3) (Walk.gd _ rfl rfl rfl (fun h=>A6 rfl (A0 rfl h) (kn rfl) BN) (Walk.gd _ rfl rfl rfl (fun h=>BO rfl (A0 rfl h) (fun hb=>A0 rfl (gb h hb))) (A4 rfl rfl rfl (AO rfl (kn rfl) (fun hb=>A0 rfl hb)) .nil)))))))))))) ?_
  try refine A3 ?_
  refine AB rfl (fun h2=>?_) (fun h2=>?_)
  ·have h3:=(Bool.and_eq_true _ _).mp h2
   rw[IN hx (of_decide_eq_true h3.1) h3.2,E5 _ (by decide)]at q
   try refine A3 ?_
   refine A2 (AC rfl rfl rfl rfl rfl .nil) ?_
   try refine A3 ?_
   exact A8 rfl rfl (.tmp (kn rfl) (.nil)) (Imp.of_eq (by rw[q];rfl)) rfl
  have h3:0<=BG (C1 d) K3 (e.steps.take k) F->K3 x.1=false:=fun h3=>((Bool.and_eq_false_iff).mp h2).resolve_left (by rw[decide_eq_true h3];decide)
  try refine A3 ?_
  refine A2 (A9 rfl rfl rfl rfl rfl (A4 rfl rfl rfl (A6 rfl (kn rfl) (kn rfl) CM) .nil)) ?_
  try refine A3 ?_
  refine AB rfl (fun h2=>?_) (fun h2=>?_)
  ·have h4:=of_decide_eq_true h2
   have h5:=h3 h4
   try refine A3 ?_
   refine A2 (A4 rfl rfl rfl (A1 rfl (kn rfl) off_77_3) (A4 rfl rfl rfl (A7 (ds:=[_,_,_,_,_,_,_,_,_,_,_,_,_,_,_,_,_,_,_,_,_]) 21 rfl (kn rfl) rfl rfl agg_32 sz_32 rfl) (A9 rfl rfl rfl rfl rfl (A9 rfl rfl rfl rfl rfl (A4 rfl rfl rfl (A6 rfl (kn rfl) (kn rfl) (K2 d hd)) (A4 rfl rfl rfl (AD rfl (by kernel_rfl) (ih x.2 _ (hf.kid (Ed.kid_s mx)) h4 (by omega)) ⟨(kn rfl),⟨(kn rfl),⟨(kn rfl),trivial⟩⟩⟩) (AC rfl rfl rfl rfl rfl .nil))))))) ?_
   try refine A3 ?_
   try refine A3 ?_
   refine A2 (A4 rfl rfl rfl (A6 rfl (kn rfl) (kn rfl) (AK (by first | omega | (dsimp only;omega)))) (A9 rfl rfl rfl rfl rfl .nil)) ?_
   try refine A3 ?_
   refine AS ⟨k+1,by omega⟩ (by dsimp only;omega) (fun K=>AL ⟨⟨_,rfl,Imp.of_eq (by rw[htk,if_pos h4,h5,if_neg (by decide)])⟩,s_t,s_t,s_t,s_t,s_t,trivial⟩ ⟨s_b,trivial⟩ trivial)
  have h4:=of_decide_eq_false h2
  try refine A3 ?_
  refine A2 (A4 rfl rfl rfl (A6 rfl (kn rfl) (kn rfl) (AK (by first | omega | (dsimp only;omega)))) (A9 rfl rfl rfl rfl rfl .nil)) ?_
  try refine A3 ?_
  refine AS ⟨k+1,by omega⟩ (by dsimp only;omega) (fun K=>AL ⟨⟨_,rfl,Imp.of_eq (by rw[htk,if_neg h4])⟩,s_t,s_t,s_t,s_t,s_t,trivial⟩ ⟨s_b,trivial⟩ trivial)
 obtain rfl:k=e.steps.length:=by have:=of_decide_eq_false h;omega
 rw[List.take_length]
 obtain⟨G1,G2⟩:=EY (d:=d) (bad:=K3) e.steps F (fun p hp=>hf.kid (Ed.kid_s hp)) (by omega)
 generalize BG (C1 d) K3 e.steps F=G at *
 try refine A3 ?_
 refine A2 (A4 rfl rfl rfl (A1 rfl (kn rfl) off_32_8) (A4 rfl rfl rfl (A5 rfl (kn rfl) rfl rfl one_30) (A4 rfl rfl rfl (AR rfl (kn rfl) sle_30) (A9 rfl rfl rfl rfl rfl .nil)))) ?_
 try refine A3 ?_
 refine AX (ι:={ k:Nat // k<=(e.keys).length })
  (fun k=>[(1,.is (.int .i64 (BG (C1 d) NV ((e.keys).take k.1) G))),(2,.is (.int .i64 ((d+1:Nat):Int))),(3,.box 3 0),(84,.part (.one (.row 28 (e.keys).length ((e.keys).flatMap CU)))),(85,.is (.int .i64 ((e.keys).length:Int))),(86,.is (.int .i64 (k.1:Int)))])
  (fun _=>[(3,⟨32,bcs (ed e)⟩)]) (fun _=>[]) (fun k=>(e.keys).length-k.1) ⟨0,by omega⟩
  (fun K=>AL ⟨s_t,s_t,s_t,s_t,s_t,s_t,trivial⟩ ⟨s_b,trivial⟩ trivial) ?_
 rintro⟨k,hk⟩
 dsimp only at hk ⊢
 try refine A3 ?_
 refine A2 (A4 rfl rfl rfl (A6 rfl (kn rfl) (kn rfl) AY) .nil) ?_
 try refine A3 ?_
 refine AB rfl (fun h=>?_) (fun h=>?_)
 ·have hlt:k<(e.keys).length:=by have:=of_decide_eq_true h;omega
  obtain⟨x,hx⟩:∃ x,(e.keys)[k]?=some x:=⟨_,List.getElem?_eq_getElem hlt⟩
  have mx:=List.mem_of_getElem? hx
  have htk:=ED (g:=C1 d) (bad:=NV) (l:=G) hx
  obtain⟨b1,b2⟩:=EY (d:=d) (bad:=NV) ((e.keys).take k) G (fun p hp=>hf.kid (Ed.kid_k (List.mem_of_mem_take hp))) (by omega)
  try refine A3 ?_
  refine AI ?_
  refine AQ (AJ rfl (kn rfl) (kn rfl) (by omega) hx BK sle_30 esz_30 (BS x)) ?_
  refine AQ (AH rfl (kn rfl) agg_61 sz_61) ?_
  refine AW 12 [.is (.int .i64 0),.is (.int .u64 0),.is (.string ⟨#[]⟩),.is (.slice none 0 0),.is (.string ⟨#[]⟩),.is (.slice none 0 0),.is (.slice none 0 0),.is (.int .i64 0),.is (.int .i64 0),.is (.int .u64 0),.is (.string ⟨#[]⟩),.is (.slice none 0 0),.is (.string ⟨#[]⟩),.is (.slice none 0 0),.is (.slice none 0 0),.is (.int .i64 0),.is (.int .u64 0),.is (.string ⟨#[]⟩),.is (.slice none 0 0),.is (.string ⟨#[]⟩),.is (.slice none 0 0),.is (.slice none 0 0),.is (.slice none 0 0),.is (.bool false),.is (.string ⟨#[]⟩),.is (.string ⟨#[]⟩),.is (.slice none 0 0),.is (.slice none 0 0)] rfl rfl rfl rfl zr_61 (fun w D M V=>⟨rfl,fun j x v h1 h2=>AV _ h1 h2 rfl⟩) rfl rfl rfl rfl ?_
  refine AT rfl rfl rfl (kn rfl) rfl (kn rfl) rfl rfl sz_61 ?_
  refine AM ?_
  try refine A3 ?_
  refine A2 (A9 rfl rfl rfl rfl rfl (A4 rfl rfl rfl (A6 rfl (kn rfl) (kn rfl) CM) (A9 rfl rfl rfl rfl rfl (Walk.gd _ rfl rfl rfl (fun h=>A1 rfl (kn rfl) off_61_0) (Walk.gd _ rfl rfl rfl (fun h=>A7 (ds:=[_,_,_,_,_,_,_]) 7 rfl (A0 rfl h) rfl rfl agg_27 sz_27 rfl) (Walk.gd _ rfl rfl rfl (fun h=>AD rfl (by kernel_rfl) (I1 x.1 20 (k4 x mx) (by decide) (by decide)) ⟨(A0 rfl h),⟨(kn rfl),trivial⟩⟩) (A4 rfl rfl rfl (AO rfl (kn rfl) (fun hb=>A0 rfl hb)) .nil))))))) ?_
  try refine A3 ?_
  refine AB rfl (fun h2=>?_) (fun h2=>?_)
  ·have h3:=(Bool.and_eq_true _ _).mp h2
   rw[IN hx (of_decide_eq_true h3.1) h3.2]at q
   try refine A3 ?_
   refine A2 (AC rfl rfl rfl rfl rfl .nil) ?_
   try refine A3 ?_
   exact A8 rfl rfl (.tmp (kn rfl) (.nil)) (Imp.of_eq (by rw[q];rfl)) rfl
  have h3:0<=BG (C1 d) NV (e.keys.take k) G->NV x.1=false:=fun h3=>((Bool.and_eq_false_iff).mp h2).resolve_left (by rw[decide_eq_true h3];decide)
  try refine A3 ?_
  refine A2 (A9 rfl rfl rfl rfl rfl (A4 rfl rfl rfl (A6 rfl (kn rfl) (kn rfl) CM) .nil)) ?_
  try refine A3 ?_
  refine AB rfl (fun h2=>?_) (fun h2=>?_)
  ·have h4:=of_decide_eq_true h2
   have h5:=h3 h4
   try refine A3 ?_
   refine A2 (A4 rfl rfl rfl (A1 rfl (kn rfl) off_61_1) (A4 rfl rfl rfl (A7 (ds:=[_,_,_,_,_,_,_,_,_,_,_,_,_,_,_,_,_,_,_,_,_]) 21 rfl (kn rfl) rfl rfl agg_32 sz_32 rfl) (A9 rfl rfl rfl rfl rfl (A9 rfl rfl rfl rfl rfl (A4 rfl rfl rfl (A6 rfl (kn rfl) (kn rfl) (K2 d hd)) (A4 rfl rfl rfl (AD rfl (by kernel_rfl) (ih x.2 _ (hf.kid (Ed.kid_k mx)) h4 (by omega)) ⟨(kn rfl),⟨(kn rfl),⟨(kn rfl),trivial⟩⟩⟩) (AC rfl rfl rfl rfl rfl .nil))))))) ?_
   try refine A3 ?_
   try refine A3 ?_
   refine A2 (A4 rfl rfl rfl (A6 rfl (kn rfl) (kn rfl) (AK (by first | omega | (dsimp only;omega)))) (A9 rfl rfl rfl rfl rfl .nil)) ?_
   try refine A3 ?_
   refine AS ⟨k+1,by omega⟩ (by dsimp only;omega) (fun K=>AL ⟨⟨_,rfl,Imp.of_eq (by rw[htk,if_pos h4,h5,if_neg (by decide)])⟩,s_t,s_t,s_t,s_t,s_t,trivial⟩ ⟨s_b,trivial⟩ trivial)
  have h4:=of_decide_eq_false h2
  try refine A3 ?_
  refine A2 (A4 rfl rfl rfl (A6 rfl (kn rfl) (kn rfl) (AK (by first | omega | (dsimp only;omega)))) (A9 rfl rfl rfl rfl rfl .nil)) ?_
  try refine A3 ?_
  refine AS ⟨k+1,by omega⟩ (by dsimp only;omega) (fun K=>AL ⟨⟨_,rfl,Imp.of_eq (by rw[htk,if_neg h4])⟩,s_t,s_t,s_t,s_t,s_t,trivial⟩ ⟨s_b,trivial⟩ trivial)
 obtain rfl:k=e.keys.length:=by have:=of_decide_eq_false h;omega
 rw[List.take_length,<- q]
 try refine A3 ?_
 refine A2 (A9 rfl rfl rfl rfl rfl (AC rfl rfl rfl rfl rfl .nil)) ?_
 try refine A3 ?_
 exact A8 rfl rfl (.tmp (kn rfl) (.nil)) (Imp.of_eq rfl) rfl
theorem LV:∀ d:Nat,d<=1000->EGr d
 | 0,_=>O6
 | d+1,h=>NO d (by omega) (LV d (by omega))
theorem Q0(e:Ed)(hf:e.Fine):EF Tryz.prog [] 5 [.many (ed e),iP 80] (.part (tP (UR e))):=by
 refine AG 9 Tryz.func5 rfl rfl rfl fun w D=>?_
 try refine A3 ?_
 refine AI ?_
 refine B9 2 rfl rfl rfl rfl (kn rfl) rfl rfl rfl rfl ?_
 refine BX ?_
 refine AM ?_
 try refine A3 ?_
 refine A2 (A4 rfl rfl rfl (A7 (ds:=[_,_,_,_,_,_,_,_,_,_,_,_,_,_,_,_,_,_,_,_,_]) 21 rfl (kn rfl) rfl rfl agg_32 sz_32 rfl) (A9 rfl rfl rfl rfl rfl (A4 rfl rfl rfl (AD rfl (by kernel_rfl) (LV 20 (by decide) e 80 hf (by decide) (by decide)) ⟨(kn rfl),⟨(kn rfl),⟨(kn rfl),trivial⟩⟩⟩) (A4 rfl rfl rfl (A6 rfl (kn rfl) (kn rfl) AY) (AC rfl rfl rfl rfl rfl .nil))))) ?_
 try refine A3 ?_
 exact A8 rfl rfl (.tmp (kn rfl) (.nil)) (Imp.of_eq rfl) rfl
structure Vl.Good (v:Vl):Prop where
 fine:v.Fine
 tx:v.Tx
 nodes:vnodes v<=1000
def NE(n:Nat):Vl:=.mk 1 n [] [] [] [] []
theorem Q3(k:Int)(n:Nat)(h1 : -9223372036854775808<=k)(h2:k<9223372036854775808)(h3:n<18446744073709551616):(Vl.mk k n [] [] [] [] []).Fine:=
 .mk _ h1 h2 h3 (Nat.zero_le _) (Nat.zero_le _) (Nat.zero_le _) (Nat.zero_le _) (Nat.zero_le _) (fun _ h=>by cases h) (fun _ h=>by cases h) (fun _ h=>by cases h) (fun _ h=>by cases h) (fun _ h=>by cases h)
theorem LK(k:Int)(n:Nat)(h1 : -9223372036854775808<=k)(h2:k<9223372036854775808)(h3:n<18446744073709551616):(Vl.mk k n [] [] [] [] []).Good:=
 ⟨Q3 k n h1 h2 h3,.mk _ (Nat.zero_le _) (Nat.zero_le _) (fun _ h=>by cases h),by rw[CH];simp[Vl.list,Vl.fields,Vl.pairs,lnodes,fnodes,pnodes]⟩
end Go.Proofs.YtojdpgeeajaojaaGreat
