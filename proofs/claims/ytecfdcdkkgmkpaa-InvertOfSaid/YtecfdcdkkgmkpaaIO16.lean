/- Part 16. Conditions: as each theorem says. -/
import Derived.Test.YtecfdcdkkgmkpaaIO15
import Derived.Test.YtecfdcdkkgmkpaaProg
set_option maxRecDepth 100000
namespace Go.Proofs.Ytecfdcdkkgmkpaa
open Go.RowKit
theorem JX{α:Type}{g:Ed->Int->Int}{bad:α->Bool}{xs:List (α×Ed)}{l:Int}{k:Nat}{x:α×Ed}(h:xs[k]?=some x)(h0:0<=BM g bad (xs.take k) l)(hb:bad x.1=true):BM g bad xs l = -1:=by
 rw[O8 xs (k+1) l,F8 h,if_pos h0,if_pos hb,F0 _ (by decide)]
def EGr(d:Nat):Prop:=∀ (e:Ed) (left:Int),e.Fine->0<=left->left<=80->EF Try.prog [] 19 [.many (ed e),iP left,iP (d:Int)] (.part (iP (BW d e left)))
theorem PC:EGr 0:=by
 intro e left hf h0 h1
 obtain⟨_,o1,o2,_⟩:=hf.all
 refine AH 107 Try.func19 rfl rfl rfl fun w D=>?_
 try refine A2 ?_
 refine AF ?_
 refine BX 3 rfl rfl rfl rfl (kn rfl) rfl rfl rfl rfl ?_
 refine BY ?_
 refine AD ?_
 try refine A2 ?_
 refine A1 (A9 rfl rfl rfl rfl rfl (A4 rfl rfl rfl (A6 rfl (kn rfl) (kn rfl) AO) (A9 rfl rfl rfl rfl rfl (Walk.gd _ rfl rfl rfl (fun h=>A0 rfl (kn rfl) off_32_5) (Walk.gd _ rfl rfl rfl (fun h=>A5 rfl (A3 rfl h) rfl rfl one_9) (Walk.gd _ rfl rfl rfl (fun h=>GB rfl (A3 rfl h) str_9) (Walk.gd _ rfl rfl rfl (fun h=>A6 rfl (A3 rfl h) (kn rfl) D7) (A4 rfl rfl rfl (DI rfl (kn rfl) (fun hb=>A3 rfl hb)) (A9 rfl rfl rfl rfl rfl (Walk.gd _ rfl rfl rfl (fun h=>A0 rfl (kn rfl) off_32_6) (Walk.gd _ rfl rfl rfl (fun h=>A5 rfl (A3 rfl h) rfl rfl one_9) (Walk.gd _ rfl rfl rfl (fun h=>GB rfl (A3 rfl h) str_9) (Walk.gd _ rfl rfl rfl (fun h=>A6 rfl (A3 rfl h) (kn rfl) D7) (A4 rfl rfl rfl (DI rfl (kn rfl) (fun hb=>A3 rfl hb)) (A9 rfl rfl rfl rfl rfl (Walk.gd _ rfl rfl rfl (fun h=>A0 rfl (kn rfl) off_32_1) (Walk.gd _ rfl rfl rfl (fun h=>A7 (ds:=[_,_,_,_,_,_,_]) 7 rfl (A3 rfl h) rfl rfl agg_27 sz_27 rfl) (Walk.gd _ rfl rfl rfl (fun h=>AE rfl (by kernel_rfl) (JK e.old 60 o1 (by decide) (by decide)) ⟨(A3 rfl h),⟨(kn rfl),trivial⟩⟩) (A4 rfl rfl rfl (DI rfl (kn rfl) (fun hb=>A3 rfl hb)) (A9 rfl rfl rfl rfl rfl (Walk.gd _ rfl rfl rfl (fun h=>A0 rfl (kn rfl) off_32_2) (Walk.gd _ rfl rfl rfl (fun h=>A7 (ds:=[_,_,_,_,_,_,_]) 7 rfl (A3 rfl h) rfl rfl agg_27 sz_27 rfl) (Walk.gd _ rfl rfl rfl (fun h=>AE rfl (by kernel_rfl) (JK e.new 60 o2 (by decide) (by decide)) ⟨(A3 rfl h),⟨(kn rfl),trivial⟩⟩) (A4 rfl rfl rfl (DI rfl (kn rfl) (fun hb=>A3 rfl hb)) .nil)))))))))))))))))))))))) ?_
 try refine A2 ?_
 refine AA rfl (fun h=>?_) (fun h=>?_)
 ·try refine A2 ?_
  refine A1 (AC rfl rfl rfl rfl rfl .nil) ?_
  try refine A2 ?_
  exact A8 rfl rfl (.tmp (kn rfl) (.nil)) (Imp.of_eq rfl) rfl
 ·simp at h
set_option maxHeartbeats 4000000 in
theorem PZ(d:Nat)(hd:d<=1000)(ih:EGr d):EGr (d+1):=by
 intro e left hf h0 h1
 have hmax:maxLen<=9223372036854775807:=by decide
 obtain⟨k1,o1,o2,⟨l1,l2,l3,l4,l5⟩,k2,k3,k4⟩:=hf.all
 have q:BW (d+1) e left=if PK e then -1 else BM (BW d) Q1 e.keys (BM (BW d) LG e.steps (BM (BW d) (fun _=>false) e.fields (left-1))):=rfl
 refine AH 107 Try.func19 rfl rfl rfl fun w D=>?_
 try refine A2 ?_
 refine AF ?_
 refine BX 3 rfl rfl rfl rfl (kn rfl) rfl rfl rfl rfl ?_
 refine BY ?_
 refine AD ?_
 try refine A2 ?_
 refine A1 (A9 rfl rfl rfl rfl rfl (A4 rfl rfl rfl (A6 rfl (kn rfl) (kn rfl) AO) (A9 rfl rfl rfl rfl rfl (Walk.gd _ rfl rfl rfl (fun h=>A0 rfl (kn rfl) off_32_5) (Walk.gd _ rfl rfl rfl (fun h=>A5 rfl (A3 rfl h) rfl rfl one_9) (Walk.gd _ rfl rfl rfl (fun h=>GB rfl (A3 rfl h) str_9) (Walk.gd _ rfl rfl rfl (fun h=>A6 rfl (A3 rfl h) (kn rfl) D7) (A4 rfl rfl rfl (DI rfl (kn rfl) (fun hb=>A3 rfl hb)) (A9 rfl rfl rfl rfl rfl (Walk.gd _ rfl rfl rfl (fun h=>A0 rfl (kn rfl) off_32_6) (Walk.gd _ rfl rfl rfl (fun h=>A5 rfl (A3 rfl h) rfl rfl one_9) (Walk.gd _ rfl rfl rfl (fun h=>GB rfl (A3 rfl h) str_9) (Walk.gd _ rfl rfl rfl (fun h=>A6 rfl (A3 rfl h) (kn rfl) D7) (A4 rfl rfl rfl (DI rfl (kn rfl) (fun hb=>A3 rfl hb)) (A9 rfl rfl rfl rfl rfl (Walk.gd _ rfl rfl rfl (fun h=>A0 rfl (kn rfl) off_32_1) (Walk.gd _ rfl rfl rfl (fun h=>A7 (ds:=[_,_,_,_,_,_,_]) 7 rfl (A3 rfl h) rfl rfl agg_27 sz_27 rfl) (Walk.gd _ rfl rfl rfl (fun h=>AE rfl (by kernel_rfl) (JK e.old 60 o1 (by decide) (by decide)) ⟨(A3 rfl h),⟨(kn rfl),trivial⟩⟩) (A4 rfl rfl rfl (DI rfl (kn rfl) (fun hb=>A3 rfl hb)) (A9 rfl rfl rfl rfl rfl (Walk.gd _ rfl rfl rfl (fun h=>A0 rfl (kn rfl) off_32_2) (Walk.gd _ rfl rfl rfl (fun h=>A7 (ds:=[_,_,_,_,_,_,_]) 7 rfl (A3 rfl h) rfl rfl agg_27 sz_27 rfl) (Walk.gd _ rfl rfl rfl (fun h=>AE rfl (by kernel_rfl) (JK e.new 60 o2 (by decide) (by decide)) ⟨(A3 rfl h),⟨(kn rfl),trivial⟩⟩) (A4 rfl rfl rfl (DI rfl (kn rfl) (fun hb=>A3 rfl hb)) .nil)))))))))))))))))))))))) ?_
 try refine A2 ?_
 refine AA rfl (fun h=>?_) (fun h=>?_)
 ·have hb:PK e=true:=by
   simp only[Bool.or_eq_true,decide_eq_true_eq]at h
   simp only[PK,Bool.or_eq_true,decide_eq_true_eq]
   rcases h with(((h | h) | h) | h) | h
   ·omega
   ·exact .inl (.inl (.inl (by omega)))
   ·exact .inl (.inl (.inr (by omega)))
   ·exact .inl (.inr h)
   ·exact .inr h
  rw[if_pos hb]at q
  try refine A2 ?_
  refine A1 (AC rfl rfl rfl rfl rfl .nil) ?_
  try refine A2 ?_
  exact A8 rfl rfl (.tmp (kn rfl) (.nil)) (Imp.of_eq (by rw[q];rfl)) rfl
 have hb:PK e=false:=by
  simp only[Bool.or_eq_false_iff,decide_eq_false_iff_not]at h
  simp only[PK,Bool.or_eq_false_iff,decide_eq_false_iff_not]
  exact⟨⟨⟨by omega,by omega⟩,h.1.2⟩,h.2⟩
 rw[if_neg (by rw[hb];decide)]at q
 clear h
 try refine A2 ?_
 refine A1 (A9 rfl rfl rfl rfl rfl (A4 rfl rfl rfl (A6 rfl (kn rfl) (kn rfl) (E2 (by first | omega | (dsimp only;omega)))) (AC rfl rfl rfl rfl rfl .nil))) ?_
 try refine A2 ?_
 refine A1 (A4 rfl rfl rfl (A0 rfl (kn rfl) off_32_3) (A4 rfl rfl rfl (A5 rfl (kn rfl) rfl rfl one_28) (A4 rfl rfl rfl (AT rfl (kn rfl) sle_28) (A9 rfl rfl rfl rfl rfl .nil)))) ?_
 try refine A2 ?_
 refine BB (ι:={ k:Nat // k<=(e.fields).length })
  (fun k=>[(1,.is (.int .i64 (BM (BW d) (fun _=>false) ((e.fields).take k.1) (left-1)))),(2,.is (.int .i64 ((d+1:Nat):Int))),(3,.box 3 0),(40,.part (.one (.row 22 (e.fields).length ((e.fields).flatMap D3)))),(41,.is (.int .i64 ((e.fields).length:Int))),(42,.is (.int .i64 (k.1:Int)))])
  (fun _=>[(3,⟨32,bcs (ed e)⟩)]) (fun _=>[]) (fun k=>(e.fields).length-k.1) ⟨0,by omega⟩
  (fun K=>AM ⟨s_t,s_t,s_t,s_t,s_t,s_t,trivial⟩ ⟨s_b,trivial⟩ trivial) ?_
 rintro⟨k,hk⟩
 dsimp only at hk ⊢
 try refine A2 ?_
 refine A1 (A4 rfl rfl rfl (A6 rfl (kn rfl) (kn rfl) B7) .nil) ?_
 try refine A2 ?_
 refine AA rfl (fun h=>?_) (fun h=>?_)
 ·have hlt:k<(e.fields).length:=by have:=of_decide_eq_true h;omega
  obtain⟨x,hx⟩:∃ x,(e.fields)[k]?=some x:=⟨_,List.getElem?_eq_getElem hlt⟩
  have mx:=List.mem_of_getElem? hx
  have htk:=F8 (g:=BW d) (bad:=(fun _=>false)) (l:=(left-1)) hx
  obtain⟨b1,b2⟩:=FG (d:=d) (bad:=(fun _=>false)) ((e.fields).take k) (left-1) (fun p hp=>hf.kid (Ed.kid_f (List.mem_of_mem_take hp))) (by omega)
  try refine A2 ?_
  refine AF ?_
  refine AG (AL rfl (kn rfl) (kn rfl) (by omega) hx CO sle_28 esz_28 (CD x)) ?_
  refine AG (AJ rfl (kn rfl) agg_61 sz_61) ?_
  refine AV 8 [.is (.int .i64 0),.is (.int .i64 0),.is (.int .i64 0),.is (.int .u64 0),.is (.string ⟨#[]⟩),.is (.slice none 0 0),.is (.string ⟨#[]⟩),.is (.slice none 0 0),.is (.slice none 0 0),.is (.int .i64 0),.is (.int .u64 0),.is (.string ⟨#[]⟩),.is (.slice none 0 0),.is (.string ⟨#[]⟩),.is (.slice none 0 0),.is (.slice none 0 0),.is (.slice none 0 0),.is (.bool false),.is (.string ⟨#[]⟩),.is (.string ⟨#[]⟩),.is (.slice none 0 0),.is (.slice none 0 0)] rfl rfl rfl rfl zr_61 (fun w D M V=>⟨rfl,fun j x v h1 h2=>AU _ h1 h2 rfl⟩) rfl rfl rfl rfl ?_
  refine AP rfl rfl rfl (kn rfl) rfl (kn rfl) rfl rfl sz_61 ?_
  refine AD ?_
  try refine A2 ?_
  refine A1 (A9 rfl rfl rfl rfl rfl (A4 rfl rfl rfl (A6 rfl (kn rfl) (kn rfl) DM) .nil)) ?_
  try refine A2 ?_
  refine AA rfl (fun h2=>?_) (fun h2=>?_)
  ·have h3:=of_decide_eq_true h2
   try refine A2 ?_
   refine A1 (A4 rfl rfl rfl (A0 rfl (kn rfl) off_61_1) (A4 rfl rfl rfl (A7 (ds:=[_,_,_,_,_,_,_,_,_,_,_,_,_,_,_,_,_,_,_,_,_]) 21 rfl (kn rfl) rfl rfl agg_32 sz_32 rfl) (A9 rfl rfl rfl rfl rfl (A9 rfl rfl rfl rfl rfl (A4 rfl rfl rfl (A6 rfl (kn rfl) (kn rfl) (LT d hd)) (A4 rfl rfl rfl (AE rfl (by kernel_rfl) (ih x.2 _ (hf.kid (Ed.kid_f mx)) h3 (by omega)) ⟨(kn rfl),⟨(kn rfl),⟨(kn rfl),trivial⟩⟩⟩) (AC rfl rfl rfl rfl rfl .nil))))))) ?_
   try refine A2 ?_
   try refine A2 ?_
   refine A1 (A4 rfl rfl rfl (A6 rfl (kn rfl) (kn rfl) (AS (by first | omega | (dsimp only;omega)))) (A9 rfl rfl rfl rfl rfl .nil)) ?_
   try refine A2 ?_
   refine AR ⟨k+1,by omega⟩ (by dsimp only;omega) (fun K=>AM ⟨⟨_,rfl,Imp.of_eq (by rw[htk,if_pos h3,if_neg (by decide)])⟩,s_t,s_t,s_t,s_t,s_t,trivial⟩ ⟨s_b,trivial⟩ trivial)
  have h3:=of_decide_eq_false h2
  try refine A2 ?_
  refine A1 (A4 rfl rfl rfl (A6 rfl (kn rfl) (kn rfl) (AS (by first | omega | (dsimp only;omega)))) (A9 rfl rfl rfl rfl rfl .nil)) ?_
  try refine A2 ?_
  refine AR ⟨k+1,by omega⟩ (by dsimp only;omega) (fun K=>AM ⟨⟨_,rfl,Imp.of_eq (by rw[htk,if_neg h3])⟩,s_t,s_t,s_t,s_t,s_t,trivial⟩ ⟨s_b,trivial⟩ trivial)
 obtain rfl:k=e.fields.length:=by have:=of_decide_eq_false h;omega
 rw[List.take_length]
 obtain⟨F1,F2⟩:=FG (d:=d) (bad:=fun _:Int=>false) e.fields (left-1) (fun p hp=>hf.kid (Ed.kid_f hp)) (by omega)
 generalize BM (BW d) (fun _=>false) e.fields (left-1)=F at *
 try refine A2 ?_
 refine A1 (A4 rfl rfl rfl (A0 rfl (kn rfl) off_32_7) (A4 rfl rfl rfl (A5 rfl (kn rfl) rfl rfl one_29) (A4 rfl rfl rfl (AT rfl (kn rfl) sle_29) (A9 rfl rfl rfl rfl rfl .nil)))) ?_
 try refine A2 ?_
 refine BB (ι:={ k:Nat // k<=(e.steps).length })
  (fun k=>[(1,.is (.int .i64 (BM (BW d) LG ((e.steps).take k.1) F))),(2,.is (.int .i64 ((d+1:Nat):Int))),(3,.box 3 0),(56,.part (.one (.row 30 (e.steps).length ((e.steps).flatMap B5)))),(57,.is (.int .i64 ((e.steps).length:Int))),(58,.is (.int .i64 (k.1:Int)))])
  (fun _=>[(3,⟨32,bcs (ed e)⟩)]) (fun _=>[]) (fun k=>(e.steps).length-k.1) ⟨0,by omega⟩
  (fun K=>AM ⟨s_t,s_t,s_t,s_t,s_t,s_t,trivial⟩ ⟨s_b,trivial⟩ trivial) ?_
 rintro⟨k,hk⟩
 dsimp only at hk ⊢
 try refine A2 ?_
 refine A1 (A4 rfl rfl rfl (A6 rfl (kn rfl) (kn rfl) B7) .nil) ?_
 try refine A2 ?_
 refine AA rfl (fun h=>?_) (fun h=>?_)
 ·have hlt:k<(e.steps).length:=by have:=of_decide_eq_true h;omega
  obtain⟨x,hx⟩:∃ x,(e.steps)[k]?=some x:=⟨_,List.getElem?_eq_getElem hlt⟩
  have mx:=List.mem_of_getElem? hx
  have htk:=F8 (g:=BW d) (bad:=LG) (l:=F) hx
  obtain⟨b1,b2⟩:=FG (d:=d) (bad:=LG) ((e.steps).take k) F (fun p hp=>hf.kid (Ed.kid_s (List.mem_of_mem_take hp))) (by omega)
  try refine A2 ?_
  refine AF ?_
  refine AG (AL rfl (kn rfl) (kn rfl) (by omega) hx BK sle_29 esz_29 (BJ x)) ?_
  refine AG (AJ rfl (kn rfl) agg_76 sz_76) ?_
  refine AV 10 [.is (.int .i64 0),.is (.int .i64 0),.is (.int .i64 0),.is (.int .u64 0),.is (.string ⟨#[]⟩),.is (.slice none 0 0),.is (.string ⟨#[]⟩),.is (.slice none 0 0),.is (.slice none 0 0),.is (.int .i64 0),.is (.int .i64 0),.is (.int .u64 0),.is (.string ⟨#[]⟩),.is (.slice none 0 0),.is (.string ⟨#[]⟩),.is (.slice none 0 0),.is (.slice none 0 0),.is (.int .i64 0),.is (.int .u64 0),.is (.string ⟨#[]⟩),.is (.slice none 0 0),.is (.string ⟨#[]⟩),.is (.slice none 0 0),.is (.slice none 0 0),.is (.slice none 0 0),.is (.bool false),.is (.string ⟨#[]⟩),.is (.string ⟨#[]⟩),.is (.slice none 0 0),.is (.slice none 0 0)] rfl rfl rfl rfl zr_76 (fun w D M V=>⟨rfl,fun j x v h1 h2=>AU _ h1 h2 rfl⟩) rfl rfl rfl rfl ?_
  refine AP rfl rfl rfl (kn rfl) rfl (kn rfl) rfl rfl sz_76 ?_
  refine AD ?_
  try refine A2 ?_
  refine A1 (A9 rfl rfl rfl rfl rfl (A4 rfl rfl rfl (A6 rfl (kn rfl) (kn rfl) DM) (A9 rfl rfl rfl rfl rfl (Walk.gd _ rfl rfl rfl (fun h=>A0 rfl (kn rfl) off_76_2) (Walk.gd _ rfl rfl rfl (fun h=>A7 (ds:=[_,_,_,_,_,_,_]) 7 rfl (A3 rfl h) rfl rfl agg_27 sz_27 rfl) (Walk.gd _ rfl rfl rfl (fun h=>AE rfl (by kernel_rfl) (JK x.1.2.2 60 (k3 x mx).2.2 (by decide) (by decide)) ⟨(A3 rfl h),⟨(kn rfl),trivial⟩⟩) (Walk.gd _ rfl rfl rfl (fun h=>AW rfl (A3 rfl h)) (Walk.gd _ rfl rfl rfl (fun h=>A0 rfl (kn rfl) off_76_1) (Walk.gd _ rfl rfl rfl (fun h=>A5 rfl (A3 rfl h) rfl rfl one_3) (Walk.gd _ rfl rfl rfl (fun h=>A6 rfl (A3 rfl h) (kn rfl) D7) (Walk.gd _ rfl rfl rfl (fun h=>DI rfl (A3 rfl h) (fun hb=>A3 rfl (gb h hb))) (A4 rfl rfl rfl (AQ rfl (kn rfl) (fun hb=>A3 rfl hb)) .nil)))))))))))) ?_
  try refine A2 ?_
  refine AA rfl (fun h2=>?_) (fun h2=>?_)
  ·have h3:=(Bool.and_eq_true _ _).mp h2
   rw[JX hx (of_decide_eq_true h3.1) h3.2,F0 _ (by decide)]at q
   try refine A2 ?_
   refine A1 (AC rfl rfl rfl rfl rfl .nil) ?_
   try refine A2 ?_
   exact A8 rfl rfl (.tmp (kn rfl) (.nil)) (Imp.of_eq (by rw[q];rfl)) rfl
  have h3:0<=BM (BW d) LG (e.steps.take k) F->LG x.1=false:=fun h3=>((Bool.and_eq_false_iff).mp h2).resolve_left (by rw[decide_eq_true h3];decide)
  try refine A2 ?_
  refine A1 (A9 rfl rfl rfl rfl rfl (A4 rfl rfl rfl (A6 rfl (kn rfl) (kn rfl) DM) .nil)) ?_
  try refine A2 ?_
  refine AA rfl (fun h2=>?_) (fun h2=>?_)
  ·have h4:=of_decide_eq_true h2
   have h5:=h3 h4
   try refine A2 ?_
   refine A1 (A4 rfl rfl rfl (A0 rfl (kn rfl) off_76_3) (A4 rfl rfl rfl (A7 (ds:=[_,_,_,_,_,_,_,_,_,_,_,_,_,_,_,_,_,_,_,_,_]) 21 rfl (kn rfl) rfl rfl agg_32 sz_32 rfl) (A9 rfl rfl rfl rfl rfl (A9 rfl rfl rfl rfl rfl (A4 rfl rfl rfl (A6 rfl (kn rfl) (kn rfl) (LT d hd)) (A4 rfl rfl rfl (AE rfl (by kernel_rfl) (ih x.2 _ (hf.kid (Ed.kid_s mx)) h4 (by omega)) ⟨(kn rfl),⟨(kn rfl),⟨(kn rfl),trivial⟩⟩⟩) (AC rfl rfl rfl rfl rfl .nil))))))) ?_
   try refine A2 ?_
   try refine A2 ?_
   refine A1 (A4 rfl rfl rfl (A6 rfl (kn rfl) (kn rfl) (AS (by first | omega | (dsimp only;omega)))) (A9 rfl rfl rfl rfl rfl .nil)) ?_
   try refine A2 ?_
   refine AR ⟨k+1,by omega⟩ (by dsimp only;omega) (fun K=>AM ⟨⟨_,rfl,Imp.of_eq (by rw[htk,if_pos h4,h5,if_neg (by decide)])⟩,s_t,s_t,s_t,s_t,s_t,trivial⟩ ⟨s_b,trivial⟩ trivial)
  have h4:=of_decide_eq_false h2
  try refine A2 ?_
  refine A1 (A4 rfl rfl rfl (A6 rfl (kn rfl) (kn rfl) (AS (by first | omega | (dsimp only;omega)))) (A9 rfl rfl rfl rfl rfl .nil)) ?_
  try refine A2 ?_
  refine AR ⟨k+1,by omega⟩ (by dsimp only;omega) (fun K=>AM ⟨⟨_,rfl,Imp.of_eq (by rw[htk,if_neg h4])⟩,s_t,s_t,s_t,s_t,s_t,trivial⟩ ⟨s_b,trivial⟩ trivial)
 obtain rfl:k=e.steps.length:=by have:=of_decide_eq_false h;omega
 rw[List.take_length]
 obtain⟨G1,G2⟩:=FG (d:=d) (bad:=LG) e.steps F (fun p hp=>hf.kid (Ed.kid_s hp)) (by omega)
 generalize BM (BW d) LG e.steps F=G at *
 try refine A2 ?_
 refine A1 (A4 rfl rfl rfl (A0 rfl (kn rfl) off_32_8) (A4 rfl rfl rfl (A5 rfl (kn rfl) rfl rfl one_30) (A4 rfl rfl rfl (AT rfl (kn rfl) sle_30) (A9 rfl rfl rfl rfl rfl .nil)))) ?_
 try refine A2 ?_
 refine BB (ι:={ k:Nat // k<=(e.keys).length })
  (fun k=>[(1,.is (.int .i64 (BM (BW d) Q1 ((e.keys).take k.1) G))),(2,.is (.int .i64 ((d+1:Nat):Int))),(3,.box 3 0),(84,.part (.one (.row 28 (e.keys).length ((e.keys).flatMap D4)))),(85,.is (.int .i64 ((e.keys).length:Int))),(86,.is (.int .i64 (k.1:Int)))])
  (fun _=>[(3,⟨32,bcs (ed e)⟩)]) (fun _=>[]) (fun k=>(e.keys).length-k.1) ⟨0,by omega⟩
  (fun K=>AM ⟨s_t,s_t,s_t,s_t,s_t,s_t,trivial⟩ ⟨s_b,trivial⟩ trivial) ?_
 rintro⟨k,hk⟩
 dsimp only at hk ⊢
 try refine A2 ?_
 refine A1 (A4 rfl rfl rfl (A6 rfl (kn rfl) (kn rfl) B7) .nil) ?_
 try refine A2 ?_
 refine AA rfl (fun h=>?_) (fun h=>?_)
 ·have hlt:k<(e.keys).length:=by have:=of_decide_eq_true h;omega
  obtain⟨x,hx⟩:∃ x,(e.keys)[k]?=some x:=⟨_,List.getElem?_eq_getElem hlt⟩
  have mx:=List.mem_of_getElem? hx
  have htk:=F8 (g:=BW d) (bad:=Q1) (l:=G) hx
  obtain⟨b1,b2⟩:=FG (d:=d) (bad:=Q1) ((e.keys).take k) G (fun p hp=>hf.kid (Ed.kid_k (List.mem_of_mem_take hp))) (by omega)
  try refine A2 ?_
  refine AF ?_
  refine AG (AL rfl (kn rfl) (kn rfl) (by omega) hx CM sle_30 esz_30 (CG x)) ?_
  refine AG (AJ rfl (kn rfl) agg_65 sz_65) ?_
  refine AV 12 [.is (.int .i64 0),.is (.int .u64 0),.is (.string ⟨#[]⟩),.is (.slice none 0 0),.is (.string ⟨#[]⟩),.is (.slice none 0 0),.is (.slice none 0 0),.is (.int .i64 0),.is (.int .i64 0),.is (.int .u64 0),.is (.string ⟨#[]⟩),.is (.slice none 0 0),.is (.string ⟨#[]⟩),.is (.slice none 0 0),.is (.slice none 0 0),.is (.int .i64 0),.is (.int .u64 0),.is (.string ⟨#[]⟩),.is (.slice none 0 0),.is (.string ⟨#[]⟩),.is (.slice none 0 0),.is (.slice none 0 0),.is (.slice none 0 0),.is (.bool false),.is (.string ⟨#[]⟩),.is (.string ⟨#[]⟩),.is (.slice none 0 0),.is (.slice none 0 0)] rfl rfl rfl rfl zr_65 (fun w D M V=>⟨rfl,fun j x v h1 h2=>AU _ h1 h2 rfl⟩) rfl rfl rfl rfl ?_
  refine AP rfl rfl rfl (kn rfl) rfl (kn rfl) rfl rfl sz_65 ?_
  refine AD ?_
  try refine A2 ?_
  refine A1 (A9 rfl rfl rfl rfl rfl (A4 rfl rfl rfl (A6 rfl (kn rfl) (kn rfl) DM) (A9 rfl rfl rfl rfl rfl (Walk.gd _ rfl rfl rfl (fun h=>A0 rfl (kn rfl) off_65_0) (Walk.gd _ rfl rfl rfl (fun h=>A7 (ds:=[_,_,_,_,_,_,_]) 7 rfl (A3 rfl h) rfl rfl agg_27 sz_27 rfl) (Walk.gd _ rfl rfl rfl (fun h=>AE rfl (by kernel_rfl) (JK x.1 20 (k4 x mx) (by decide) (by decide)) ⟨(A3 rfl h),⟨(kn rfl),trivial⟩⟩) (A4 rfl rfl rfl (AQ rfl (kn rfl) (fun hb=>A3 rfl hb)) .nil))))))) ?_
  try refine A2 ?_
  refine AA rfl (fun h2=>?_) (fun h2=>?_)
  ·have h3:=(Bool.and_eq_true _ _).mp h2
   rw[JX hx (of_decide_eq_true h3.1) h3.2]at q
   try refine A2 ?_
   refine A1 (AC rfl rfl rfl rfl rfl .nil) ?_
   try refine A2 ?_
   exact A8 rfl rfl (.tmp (kn rfl) (.nil)) (Imp.of_eq (by rw[q];rfl)) rfl
  have h3:0<=BM (BW d) Q1 (e.keys.take k) G->Q1 x.1=false:=fun h3=>((Bool.and_eq_false_iff).mp h2).resolve_left (by rw[decide_eq_true h3];decide)
  try refine A2 ?_
  refine A1 (A9 rfl rfl rfl rfl rfl (A4 rfl rfl rfl (A6 rfl (kn rfl) (kn rfl) DM) .nil)) ?_
  try refine A2 ?_
  refine AA rfl (fun h2=>?_) (fun h2=>?_)
  ·have h4:=of_decide_eq_true h2
   have h5:=h3 h4
   try refine A2 ?_
   refine A1 (A4 rfl rfl rfl (A0 rfl (kn rfl) off_65_1) (A4 rfl rfl rfl (A7 (ds:=[_,_,_,_,_,_,_,_,_,_,_,_,_,_,_,_,_,_,_,_,_]) 21 rfl (kn rfl) rfl rfl agg_32 sz_32 rfl) (A9 rfl rfl rfl rfl rfl (A9 rfl rfl rfl rfl rfl (A4 rfl rfl rfl (A6 rfl (kn rfl) (kn rfl) (LT d hd)) (A4 rfl rfl rfl (AE rfl (by kernel_rfl) (ih x.2 _ (hf.kid (Ed.kid_k mx)) h4 (by omega)) ⟨(kn rfl),⟨(kn rfl),⟨(kn rfl),trivial⟩⟩⟩) (AC rfl rfl rfl rfl rfl .nil))))))) ?_
   try refine A2 ?_
   try refine A2 ?_
   refine A1 (A4 rfl rfl rfl (A6 rfl (kn rfl) (kn rfl) (AS (by first | omega | (dsimp only;omega)))) (A9 rfl rfl rfl rfl rfl .nil)) ?_
   try refine A2 ?_
   refine AR ⟨k+1,by omega⟩ (by dsimp only;omega) (fun K=>AM ⟨⟨_,rfl,Imp.of_eq (by rw[htk,if_pos h4,h5,if_neg (by decide)])⟩,s_t,s_t,s_t,s_t,s_t,trivial⟩ ⟨s_b,trivial⟩ trivial)
  have h4:=of_decide_eq_false h2
  try refine A2 ?_
  refine A1 (A4 rfl rfl rfl (A6 rfl (kn rfl) (kn rfl) (AS (by first | omega | (dsimp only;omega)))) (A9 rfl rfl rfl rfl rfl .nil)) ?_
  try refine A2 ?_
  refine AR ⟨k+1,by omega⟩ (by dsimp only;omega) (fun K=>AM ⟨⟨_,rfl,Imp.of_eq (by rw[htk,if_neg h4])⟩,s_t,s_t,s_t,s_t,s_t,trivial⟩ ⟨s_b,trivial⟩ trivial)
 obtain rfl:k=e.keys.length:=by have:=of_decide_eq_false h;omega
 rw[List.take_length,<- q]
 try refine A2 ?_
 refine A1 (A9 rfl rfl rfl rfl rfl (AC rfl rfl rfl rfl rfl .nil)) ?_
 try refine A2 ?_
 exact A8 rfl rfl (.tmp (kn rfl) (.nil)) (Imp.of_eq rfl) rfl
theorem MD:∀ d:Nat,d<=1000->EGr d
 | 0,_=>PC
 | d+1,h=>PZ d (by omega) (MD d (by omega))
theorem VW(e:Ed)(hf:e.Fine):EF Try.prog [] 7 [.many (ed e),iP 80] (.part (tP (X4 e))):=by
 refine AH 9 Try.func7 rfl rfl rfl fun w D=>?_
 try refine A2 ?_
 refine AF ?_
 refine BX 2 rfl rfl rfl rfl (kn rfl) rfl rfl rfl rfl ?_
 refine BY ?_
 refine AD ?_
 try refine A2 ?_
 refine A1 (A4 rfl rfl rfl (A7 (ds:=[_,_,_,_,_,_,_,_,_,_,_,_,_,_,_,_,_,_,_,_,_]) 21 rfl (kn rfl) rfl rfl agg_32 sz_32 rfl) (A9 rfl rfl rfl rfl rfl (A4 rfl rfl rfl (AE rfl (by kernel_rfl) (MD 20 (by decide) e 80 hf (by decide) (by decide)) ⟨(kn rfl),⟨(kn rfl),⟨(kn rfl),trivial⟩⟩⟩) (A4 rfl rfl rfl (A6 rfl (kn rfl) (kn rfl) B7) (AC rfl rfl rfl rfl rfl .nil))))) ?_
 try refine A2 ?_
 exact A8 rfl rfl (.tmp (kn rfl) (.nil)) (Imp.of_eq rfl) rfl
structure Vl.Good (v:Vl):Prop where
 fine:v.Fine
 tx:v.Tx
 nodes:vnodes v<=1000
def WQ(n:Nat):Vl:=.mk 1 n [] [] [] [] []
theorem T1(k:Int)(n:Nat)(h1 : -9223372036854775808<=k)(h2:k<9223372036854775808)(h3:n<18446744073709551616):(Vl.mk k n [] [] [] [] []).Fine:=
 .mk _ h1 h2 h3 (Nat.zero_le _) (Nat.zero_le _) (Nat.zero_le _) (Nat.zero_le _) (Nat.zero_le _) (fun _ h=>by cases h) (fun _ h=>by cases h) (fun _ h=>by cases h) (fun _ h=>by cases h) (fun _ h=>by cases h)
theorem N0(k:Int)(n:Nat)(h1 : -9223372036854775808<=k)(h2:k<9223372036854775808)(h3:n<18446744073709551616):(Vl.mk k n [] [] [] [] []).Good:=
 ⟨T1 k n h1 h2 h3,.mk _ (Nat.zero_le _) (Nat.zero_le _) (fun _ h=>by cases h),by rw[CB];simp[Vl.list,Vl.fields,Vl.pairs,lnodes,fnodes,pnodes]⟩
end Go.Proofs.Ytecfdcdkkgmkpaa
