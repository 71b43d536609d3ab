/- Part 16. Conditions: as each theorem says. -/
import Derived.Test.YtojdpgeeajaojaaGreatET15
import Derived.Test.YtojdpgeeajaojaaGreatProg
set_option maxRecDepth 100000
namespace Go.Proofs.YtojdpgeeajaojaaGreat
open Go.RowKit
theorem VSm.le{n:Nat}{v:Vl}(h:VSm n v)(hn:n<=80):vnodes v<=1000000:=by have:=h.nodes;omega
theorem FH(v:Vl)(hv:VSm 80 v):EF Tryz.prog [] 20 [.many (vd v)] (.part (tP (DE v))):=by
 refine AG 10 Tryz.func20 rfl rfl rfl fun w D=>?_
 try refine A3 ?_
 refine AI ?_
 refine B9 1 rfl rfl rfl rfl (kn rfl) rfl rfl rfl rfl ?_
 refine BX ?_
 refine AM ?_
 try refine A3 ?_
 refine A2 (A4 rfl rfl rfl (A1 rfl (kn rfl) off_39_0) (A4 rfl rfl rfl (A5 rfl (kn rfl) rfl rfl one_3) (A4 rfl rfl rfl (A6 rfl (kn rfl) (kn rfl) AP) (A9 rfl rfl rfl rfl rfl (Walk.gd _ rfl rfl rfl (fun h=>A7 (ds:=[_,_,_,_,_,_,_]) 7 rfl (kn rfl) rfl rfl agg_39 sz_39 rfl) (Walk.gd _ rfl rfl rfl (fun h=>AD rfl (by kernel_rfl) (FV v hv.fine hv.tx (hv.le (by decide))) ⟨(A0 rfl h),trivial⟩) (A4 rfl rfl rfl (AO rfl (kn rfl) (fun hb=>A0 rfl hb)) (AC rfl rfl rfl rfl rfl .nil)))))))) ?_
 try refine A3 ?_
 exact A8 rfl rfl (.tmp (kn rfl) (.nil)) (Imp.of_eq rfl) rfl
theorem TD(v:Vl)(hv:VSm 80 v):EF Tryz.prog [] 24 [.many (vd v)] (.part (tP (L8 v))):=by
 refine AG 20 Tryz.func24 rfl rfl rfl fun w D=>?_
 try refine A3 ?_
 refine AI ?_
 refine B9 1 rfl rfl rfl rfl (kn rfl) rfl rfl rfl rfl ?_
 refine BX ?_
 refine AM ?_
 try refine A3 ?_
 refine A2 (A4 rfl rfl rfl (A1 rfl (kn rfl) off_39_0) (A4 rfl rfl rfl (A5 rfl (kn rfl) rfl rfl one_3) (A4 rfl rfl rfl (A6 rfl (kn rfl) (kn rfl) AP) (A9 rfl rfl rfl rfl rfl (Walk.gd _ rfl rfl rfl (fun h=>A1 rfl (kn rfl) off_39_0) (Walk.gd _ rfl rfl rfl (fun h=>A5 rfl (A0 rfl h) rfl rfl one_3) (Walk.gd _ rfl rfl rfl (fun h=>A6 rfl (A0 rfl h) (kn rfl) AP) (A4 rfl rfl rfl (BO rfl (kn rfl) (fun hb=>A0 rfl hb)) (A9 rfl rfl rfl rfl rfl (Walk.gd _ rfl rfl rfl (fun h=>A1 rfl (kn rfl) off_39_0) (Walk.gd _ rfl rfl rfl (fun h=>A5 rfl (A0 rfl h) rfl rfl one_3) (Walk.gd _ rfl rfl rfl (fun h=>A6 rfl (A0 rfl h) (kn rfl) AP) (A4 rfl rfl rfl (BO rfl (kn rfl) (fun hb=>A0 rfl hb)) (A9 rfl rfl rfl rfl rfl (Walk.gd _ rfl rfl rfl (fun h=>A7 (ds:=[_,_,_,_,_,_,_]) 7 rfl (kn rfl) rfl rfl agg_39 sz_39 rfl) (Walk.gd _ rfl rfl rfl (fun h=>AD rfl (by kernel_rfl) (FV v hv.fine hv.tx (hv.le (by decide))) ⟨(A0 rfl h),trivial⟩) (A4 rfl rfl rfl (AO rfl (kn rfl) (fun hb=>A0 rfl hb)) (AC rfl rfl rfl rfl rfl .nil)))))))))))))))))) ?_
 try refine A3 ?_
 exact A8 rfl rfl (.tmp (kn rfl) (.nil)) (Imp.of_eq rfl) rfl
def NI(e:Ed):Prop:=EF Tryz.prog [] 10 [.many (ed e)] (.part (iP (C2 e)))
set_option maxHeartbeats 4000000 in
theorem OE(e:Ed)(hs:e.Sm)(ih:∀ x∈e.kids,NI x):NI e:=by
 unfold NI
 have hb:=hs.bounds.1
 have hl:=hs.lens
 obtain⟨_,h1,h2,_,_,_,h3,h4⟩:=hs.ok.all
 have q:=HN e
 have a1:=CO h1
 have a2:=CO h2
 refine AG 70 Tryz.func10 rfl rfl rfl fun w D=>?_
 try refine A3 ?_
 refine AI ?_
 refine B9 1 rfl rfl rfl rfl (kn rfl) rfl rfl rfl rfl ?_
 refine BX ?_
 refine AM ?_
 try refine A3 ?_
 refine A2 (A4 rfl rfl rfl (A1 rfl (kn rfl) off_44_0) (A4 rfl rfl rfl (A5 rfl (kn rfl) rfl rfl one_3) (A4 rfl rfl rfl (A6 rfl (kn rfl) (kn rfl) AP) .nil))) ?_
 try refine A3 ?_
 refine AB rfl (fun h=>?_) (fun h=>?_)
 ·rw[if_pos (of_decide_eq_true h)]at q
  try refine A3 ?_
  refine A2 (AC rfl rfl rfl rfl rfl .nil) ?_
  try refine A3 ?_
  exact A8 rfl rfl (.tmp (kn rfl) (.nil)) (Imp.of_eq (by rw[q];rfl)) rfl
 rw[if_neg (of_decide_eq_false h)]at q
 clear h
 try refine A3 ?_
 refine BD BF (by kernel_rfl) (A4 rfl rfl rfl (A1 rfl (kn rfl) off_44_1) (A4 rfl rfl rfl (A7 (ds:=[_,_,_,_,_,_,_]) 7 rfl (kn rfl) rfl rfl agg_39 sz_39 rfl) (A4 rfl rfl rfl (AD rfl (by kernel_rfl) (JC e.old (h1.le (by decide))) ⟨(kn rfl),trivial⟩) (A4 rfl rfl rfl (A6 rfl (kn rfl) (kn rfl) (AK (by first | omega | (dsimp only;omega)))) (A4 rfl rfl rfl (A1 rfl (kn rfl) off_44_2) (A4 rfl rfl rfl (A7 (ds:=[_,_,_,_,_,_,_]) 7 rfl (kn rfl) rfl rfl agg_39 sz_39 rfl) (A4 rfl rfl rfl (AD rfl (by kernel_rfl) (JC e.new (h2.le (by decide))) ⟨(kn rfl),trivial⟩) (A4 rfl rfl rfl (A6 rfl (kn rfl) (kn rfl) (AK (by first | omega | (dsimp only;omega)))) (AC rfl rfl rfl rfl rfl .nil))))))))) ?_
 try refine A3 ?_
 refine A2 (A4 rfl rfl rfl (A1 rfl (kn rfl) off_44_3) (A4 rfl rfl rfl (A5 rfl (kn rfl) rfl rfl one_40) (A4 rfl rfl rfl (AR rfl (kn rfl) sle_40) (A9 rfl rfl rfl rfl rfl .nil)))) ?_
 try refine A3 ?_
 refine AX (ι:={ k:Nat // k<=(e.fields).length })
  (fun k=>[(1,.box 1 0),(3,.is (.int .i64 ((1+vsize e.old+vsize e.new+(((e.fields).take k.1).map (fun p=>C2 p.2)).sum:Nat):Int))),(22,.part (.one (.row 22 (e.fields).length ((e.fields).flatMap CT)))),(23,.is (.int .i64 ((e.fields).length:Int))),(24,.is (.int .i64 (k.1:Int)))])
  (fun _=>[(1,⟨44,bcs (ed e)⟩)]) (fun _=>[]) (fun k=>(e.fields).length-k.1) ⟨0,by omega⟩
  (fun K=>AL ⟨s_t,⟨_,rfl,Imp.of_eq (by simp)⟩,s_t,s_t,s_t,trivial⟩ ⟨s_b,trivial⟩ trivial) ?_
 rintro⟨k,hk⟩
 dsimp only at hk ⊢
 try refine A3 ?_
 refine A2 (A4 rfl rfl rfl (A6 rfl (kn rfl) (kn rfl) AY) .nil) ?_
 try refine A3 ?_
 refine AB rfl (fun h=>?_) (fun h=>?_)
 ·have hlt:k<(e.fields).length:=by have:=of_decide_eq_true h;omega
  obtain⟨x,hx⟩:∃ x,(e.fields)[k]?=some x:=⟨_,List.getElem?_eq_getElem hlt⟩
  have htk:=CQ (f:=(fun p=>C2 p.2)) hx
  have hle:=D2 (fun p=>C2 p.2) e.fields (k+1)
  try refine A3 ?_
  refine AI ?_
  refine AQ (AJ rfl (kn rfl) (kn rfl) (by omega) hx BT sle_40 esz_40 (C0 x)) ?_
  refine AQ (AH rfl (kn rfl) agg_59 sz_59) ?_
  refine AW 5 [.is (.int .i64 0),.is (.int .i64 0),.is (.int .i64 0),.is (.int .u64 0),.is (.string ⟨#[]⟩),.is (.slice none 0 0),.is (.string ⟨#[]⟩),.is (.slice none 0 0),.is (.slice none 0 0),.is (.int .i64 0),.is (.int .u64 0),.is (.string ⟨#[]⟩),.is (.slice none 0 0),.is (.string ⟨#[]⟩),.is (.slice none 0 0),.is (.slice none 0 0),.is (.slice none 0 0),.is (.bool false),.is (.string ⟨#[]⟩),.is (.string ⟨#[]⟩),.is (.slice none 0 0),.is (.slice none 0 0)] rfl rfl rfl rfl zr_59 (fun w D M V=>⟨rfl,fun j x v h1 h2=>AV _ h1 h2 rfl⟩) rfl rfl rfl rfl ?_
  refine AT rfl rfl rfl (kn rfl) rfl (kn rfl) rfl rfl sz_59 ?_
  refine AM ?_
  try refine A3 ?_
  refine A2 (A9 rfl rfl rfl rfl rfl (A4 rfl rfl rfl (A1 rfl (kn rfl) off_59_1) (A4 rfl rfl rfl (A7 (ds:=[_,_,_,_,_,_,_,_,_,_,_,_,_,_,_,_,_,_,_,_,_]) 21 rfl (kn rfl) rfl rfl agg_44 sz_44 rfl) (A4 rfl rfl rfl (AD rfl (by kernel_rfl) (ih x.2 (Ed.kid_f (List.mem_of_getElem? hx))) ⟨(kn rfl),trivial⟩) (A4 rfl rfl rfl (A6 rfl (kn rfl) (kn rfl) (AK (by first | omega | (dsimp only;omega)))) (AC rfl rfl rfl rfl rfl .nil)))))) ?_
  try refine A3 ?_
  refine A2 (A4 rfl rfl rfl (A6 rfl (kn rfl) (kn rfl) (AK (by first | omega | (dsimp only;omega)))) (A9 rfl rfl rfl rfl rfl .nil)) ?_
  try refine A3 ?_
  refine AS ⟨k+1,by omega⟩ (by dsimp only;omega) (fun K=>AL ⟨s_t,⟨_,rfl,Imp.of_eq (by rw[htk];congr 5;push_cast;omega)⟩,s_t,s_t,s_t,trivial⟩ ⟨s_b,trivial⟩ trivial)
 obtain rfl:k=e.fields.length:=by have:=of_decide_eq_false h;omega
 rw[List.take_length]
 try refine A3 ?_
 refine A2 (A4 rfl rfl rfl (A1 rfl (kn rfl) off_44_7) (A4 rfl rfl rfl (A5 rfl (kn rfl) rfl rfl one_41) (A4 rfl rfl rfl (AR rfl (kn rfl) sle_41) (A9 rfl rfl rfl rfl rfl .nil)))) ?_
 try refine A3 ?_
 refine AX (ι:={ k:Nat // k<=(e.steps).length })
  (fun k=>[(1,.box 1 0),(3,.is (.int .i64 ((1+vsize e.old+vsize e.new+(e.fields.map fun p=>C2 p.2).sum+(((e.steps).take k.1).map (fun s=>1+vsize s.1.2.2+C2 s.2)).sum:Nat):Int))),(35,.part (.one (.row 30 (e.steps).length ((e.steps).flatMap CA)))),(36,.is (.int .i64 ((e.steps).length:Int))),(37,.is (.int .i64 (k.1:Int)))])
  (fun _=>[(1,⟨44,bcs (ed e)⟩)]) (fun _=>[]) (fun k=>(e.steps).length-k.1) ⟨0,by omega⟩
  (fun K=>AL ⟨s_t,⟨_,rfl,Imp.of_eq (by simp)⟩,s_t,s_t,s_t,trivial⟩ ⟨s_b,trivial⟩ trivial) ?_
 rintro⟨k,hk⟩
 dsimp only at hk ⊢
 try refine A3 ?_
 refine A2 (A4 rfl rfl rfl (A6 rfl (kn rfl) (kn rfl) AY) .nil) ?_
 try refine A3 ?_
 refine AB rfl (fun h=>?_) (fun h=>?_)
 ·have hlt:k<(e.steps).length:=by have:=of_decide_eq_true h;omega
  obtain⟨x,hx⟩:∃ x,(e.steps)[k]?=some x:=⟨_,List.getElem?_eq_getElem hlt⟩
  have htk:=CQ (f:=(fun s=>1+vsize s.1.2.2+C2 s.2)) hx
  have hle:=D2 (fun s=>1+vsize s.1.2.2+C2 s.2) e.steps (k+1)
  have hv:=(h3 x (List.mem_of_getElem? hx)).2.2.2
  have hv2:=CO hv
  try refine A3 ?_
  refine AI ?_
  refine AQ (AJ rfl (kn rfl) (kn rfl) (by omega) hx BM sle_41 esz_41 (BR x)) ?_
  refine AQ (AH rfl (kn rfl) agg_67 sz_67) ?_
  refine AW 7 [.is (.int .i64 0),.is (.int .i64 0),.is (.int .i64 0),.is (.int .u64 0),.is (.string ⟨#[]⟩),.is (.slice none 0 0),.is (.string ⟨#[]⟩),.is (.slice none 0 0),.is (.slice none 0 0),.is (.int .i64 0),.is (.int .i64 0),.is (.int .u64 0),.is (.string ⟨#[]⟩),.is (.slice none 0 0),.is (.string ⟨#[]⟩),.is (.slice none 0 0),.is (.slice none 0 0),.is (.int .i64 0),.is (.int .u64 0),.is (.string ⟨#[]⟩),.is (.slice none 0 0),.is (.string ⟨#[]⟩),.is (.slice none 0 0),.is (.slice none 0 0),.is (.slice none 0 0),.is (.bool false),.is (.string ⟨#[]⟩),.is (.string ⟨#[]⟩),.is (.slice none 0 0),.is (.slice none 0 0)] rfl rfl rfl rfl zr_67 (fun w D M V=>⟨rfl,fun j x v h1 h2=>AV _ h1 h2 rfl⟩) rfl rfl rfl rfl ?_
  refine AT rfl rfl rfl (kn rfl) rfl (kn rfl) rfl rfl sz_67 ?_
  refine AM ?_
  try refine A3 ?_
  refine BD BF (by kernel_rfl) (A9 rfl rfl rfl rfl rfl (A4 rfl rfl rfl (A1 rfl (kn rfl) off_67_2) (A4 rfl rfl rfl (A7 (ds:=[_,_,_,_,_,_,_]) 7 rfl (kn rfl) rfl rfl agg_39 sz_39 rfl) (A4 rfl rfl rfl (AD rfl (by kernel_rfl) (JC x.1.2.2 (hv.le (by decide))) ⟨(kn rfl),trivial⟩) (A4 rfl rfl rfl (A6 rfl (kn rfl) (kn rfl) (AK (by first | omega | (dsimp only;omega)))) (A4 rfl rfl rfl (A1 rfl (kn rfl) off_67_3) (A4 rfl rfl rfl (A7 (ds:=[_,_,_,_,_,_,_,_,_,_,_,_,_,_,_,_,_,_,_,_,_]) 21 rfl (kn rfl) rfl rfl agg_44 sz_44 rfl) (A4 rfl rfl rfl (AD rfl (by kernel_rfl) (ih x.2 (Ed.kid_s (List.mem_of_getElem? hx))) ⟨(kn rfl),trivial⟩) (A4 rfl rfl rfl (A6 rfl (kn rfl) (kn rfl) (AK (by first | omega | (dsimp only;omega)))) (A4 rfl rfl rfl (A6 rfl (kn rfl) (kn rfl) (AK (by first | omega | (dsimp only;omega)))) (AC rfl rfl rfl rfl rfl .nil))))))))))) ?_
  try refine A3 ?_
  refine A2 (A4 rfl rfl rfl (A6 rfl (kn rfl) (kn rfl) (AK (by first | omega | (dsimp only;omega)))) (A9 rfl rfl rfl rfl rfl .nil)) ?_
  try refine A3 ?_
  refine AS ⟨k+1,by omega⟩ (by dsimp only;omega) (fun K=>AL ⟨s_t,⟨_,rfl,Imp.of_eq (by rw[htk];congr 5;push_cast;omega)⟩,s_t,s_t,s_t,trivial⟩ ⟨s_b,trivial⟩ trivial)
 obtain rfl:k=e.steps.length:=by have:=of_decide_eq_false h;omega
 rw[List.take_length]
 try refine A3 ?_
 refine A2 (A4 rfl rfl rfl (A1 rfl (kn rfl) off_44_8) (A4 rfl rfl rfl (A5 rfl (kn rfl) rfl rfl one_42) (A4 rfl rfl rfl (AR rfl (kn rfl) sle_42) (A9 rfl rfl rfl rfl rfl .nil)))) ?_
 try refine A3 ?_
 refine AX (ι:={ k:Nat // k<=(e.keys).length })
  (fun k=>[(1,.box 1 0),(3,.is (.int .i64 ((1+vsize e.old+vsize e.new+(e.fields.map fun p=>C2 p.2).sum+(e.steps.map fun s=>1+vsize s.1.2.2+C2 s.2).sum+(((e.keys).take k.1).map (fun s=>vsize s.1+C2 s.2)).sum:Nat):Int))),(53,.part (.one (.row 28 (e.keys).length ((e.keys).flatMap CU)))),(54,.is (.int .i64 ((e.keys).length:Int))),(55,.is (.int .i64 (k.1:Int)))])
  (fun _=>[(1,⟨44,bcs (ed e)⟩)]) (fun _=>[]) (fun k=>(e.keys).length-k.1) ⟨0,by omega⟩
  (fun K=>AL ⟨s_t,⟨_,rfl,Imp.of_eq (by simp)⟩,s_t,s_t,s_t,trivial⟩ ⟨s_b,trivial⟩ trivial) ?_
 rintro⟨k,hk⟩
 dsimp only at hk ⊢
 try refine A3 ?_
 refine A2 (A4 rfl rfl rfl (A6 rfl (kn rfl) (kn rfl) AY) .nil) ?_
 try refine A3 ?_
 refine AB rfl (fun h=>?_) (fun h=>?_)
 ·have hlt:k<(e.keys).length:=by have:=of_decide_eq_true h;omega
  obtain⟨x,hx⟩:∃ x,(e.keys)[k]?=some x:=⟨_,List.getElem?_eq_getElem hlt⟩
  have htk:=CQ (f:=(fun s=>vsize s.1+C2 s.2)) hx
  have hle:=D2 (fun s=>vsize s.1+C2 s.2) e.keys (k+1)
  have hv:=h4 x (List.mem_of_getElem? hx)
  have hv2:=CO hv
  try refine A3 ?_
  refine AI ?_
  refine AQ (AJ rfl (kn rfl) (kn rfl) (by omega) hx BK sle_42 esz_42 (BS x)) ?_
  refine AQ (AH rfl (kn rfl) agg_63 sz_63) ?_
  refine AW 9 [.is (.int .i64 0),.is (.int .u64 0),.is (.string ⟨#[]⟩),.is (.slice none 0 0),.is (.string ⟨#[]⟩),.is (.slice none 0 0),.is (.slice none 0 0),.is (.int .i64 0),.is (.int .i64 0),.is (.int .u64 0),.is (.string ⟨#[]⟩),.is (.slice none 0 0),.is (.string ⟨#[]⟩),.is (.slice none 0 0),.is (.slice none 0 0),.is (.int .i64 0),.is (.int .u64 0),.is (.string ⟨#[]⟩),.is (.slice none 0 0),.is (.string ⟨#[]⟩),.is (.slice none 0 0),.is (.slice none 0 0),.is (.slice none 0 0),.is (.bool false),.is (.string ⟨#[]⟩),.is (.string ⟨#[]⟩),.is (.slice none 0 0),.is (.slice none 0 0)] rfl rfl rfl rfl zr_63 (fun w D M V=>⟨rfl,fun j x v h1 h2=>AV _ h1 h2 rfl⟩) rfl rfl rfl rfl ?_
  refine AT rfl rfl rfl (kn rfl) rfl (kn rfl) rfl rfl sz_63 ?_
  refine AM ?_
  try refine A3 ?_
  refine BD BF (by kernel_rfl) (A9 rfl rfl rfl rfl rfl (A4 rfl rfl rfl (A1 rfl (kn rfl) off_63_0) (A4 rfl rfl rfl (A7 (ds:=[_,_,_,_,_,_,_]) 7 rfl (kn rfl) rfl rfl agg_39 sz_39 rfl) (A4 rfl rfl rfl (AD rfl (by kernel_rfl) (JC x.1 (hv.le (by decide))) ⟨(kn rfl),trivial⟩) (A4 rfl rfl rfl (A1 rfl (kn rfl) off_63_1) (A4 rfl rfl rfl (A7 (ds:=[_,_,_,_,_,_,_,_,_,_,_,_,_,_,_,_,_,_,_,_,_]) 21 rfl (kn rfl) rfl rfl agg_44 sz_44 rfl) (A4 rfl rfl rfl (AD rfl (by kernel_rfl) (ih x.2 (Ed.kid_k (List.mem_of_getElem? hx))) ⟨(kn rfl),trivial⟩) (A4 rfl rfl rfl (A6 rfl (kn rfl) (kn rfl) (AK (by first | omega | (dsimp only;omega)))) (A4 rfl rfl rfl (A6 rfl (kn rfl) (kn rfl) (AK (by first | omega | (dsimp only;omega)))) (AC rfl rfl rfl rfl rfl .nil)))))))))) ?_
  try refine A3 ?_
  refine A2 (A4 rfl rfl rfl (A6 rfl (kn rfl) (kn rfl) (AK (by first | omega | (dsimp only;omega)))) (A9 rfl rfl rfl rfl rfl .nil)) ?_
  try refine A3 ?_
  refine AS ⟨k+1,by omega⟩ (by dsimp only;omega) (fun K=>AL ⟨s_t,⟨_,rfl,Imp.of_eq (by rw[htk];congr 5;push_cast;omega)⟩,s_t,s_t,s_t,trivial⟩ ⟨s_b,trivial⟩ trivial)
 obtain rfl:k=e.keys.length:=by have:=of_decide_eq_false h;omega
 rw[List.take_length,<- q]
 try refine A3 ?_
 refine A2 (A9 rfl rfl rfl rfl rfl (AC rfl rfl rfl rfl rfl .nil)) ?_
 try refine A3 ?_
 exact A8 rfl rfl (.tmp (kn rfl) (.nil)) (Imp.of_eq rfl) rfl
theorem SI(e:Ed):e.Sm->NI e:=Ed.kids_ind (P:=fun e=>e.Sm->NI e) (fun e ih h=>OE e h fun x hx=>ih x hx (h.kid hx)) e
def KK(e:Ed):Prop:=EF Tryz.prog [] 12 [.many (ed e)] (.part (iP (C7 e)))
def DN(e:Ed)(f s k:Nat):List Ed:=(e.fields.take f).map (·.2)++((e.steps.take s).map (·.2)++(e.keys.take k).map (·.2))
theorem JY{α:Type}{l:List (α×Ed)}{k:Nat}{x:α×Ed}(h:l[k]?=some x):(l.take (k+1)).map (·.2)=(l.take k).map (·.2)++[x.2]:=by
 rw[List.take_add_one,h]
 simp
theorem RR(l:List Ed)(x:Ed):(l++[x]).flatMap Ed.dats=l.flatMap Ed.dats++ed x:=by rw[List.flatMap_append,<- GI];simp
theorem PN{e:Ed}{k:Nat}{x:Int×Ed}(h:e.fields[k]?=some x):DN e (k+1) 0 0=DN e k 0 0++[x.2]:=by
 unfold DN
 rw[JY h]
 simp
theorem PI{e:Ed}{f k:Nat}{x:(Int×Int×Vl)×Ed}(h:e.steps[k]?=some x):DN e f (k+1) 0=DN e f k 0++[x.2]:=by
 unfold DN
 rw[JY h]
 simp
theorem PY{e:Ed}{f s k:Nat}{x:Vl×Ed}(h:e.keys[k]?=some x):DN e f s (k+1)=DN e f s k++[x.2]:=by
 unfold DN
 rw[JY h]
 simp
theorem LW(e:Ed):DN e e.fields.length e.steps.length e.keys.length=e.kids:=by
 unfold DN Ed.kids
 rw[List.take_length,List.take_length,List.take_length]
theorem QA(e:Ed)(f s k:Nat):(DN e f s k).length<=e.fields.length+e.steps.length+e.keys.length:=by
 unfold DN
 simp only[List.length_append,List.length_map,List.length_take]
 omega
abbrev kR(e:Ed)(f s k:Nat):RL:=[(100,⟨44,21,(DN e f s k).length,(DN e f s k).flatMap Ed.dats,false⟩)]
set_option maxHeartbeats 4000000 in
theorem MZ(e:Ed)(hs:e.Sm)(ih:∀ x∈e.kids,KK x):KK e:=by
 unfold KK
 have hb:=hs.bounds.2
 have hl:=hs.lens
 have hk1:=QA e
 have q:=IB e
 refine AG 72 Tryz.func12 rfl rfl rfl fun w D=>?_
 try refine A3 ?_
 refine AI ?_
 refine B9 1 rfl rfl rfl rfl (kn rfl) rfl rfl rfl rfl ?_
 refine BX ?_
 refine AM ?_
 try refine A3 ?_
 refine A2 (A4 rfl rfl rfl (A1 rfl (kn rfl) off_44_0) (A4 rfl rfl rfl (A5 rfl (kn rfl) rfl rfl one_3) (A4 rfl rfl rfl (A6 rfl (kn rfl) (kn rfl) AP) .nil))) ?_
 try refine A3 ?_
 refine AB rfl (fun h=>?_) (fun h=>?_)
 ·rw[if_pos (of_decide_eq_true h)]at q
  try refine A3 ?_
  refine A2 (AC rfl rfl rfl rfl rfl .nil) ?_
  try refine A3 ?_
  exact A8 rfl rfl (.tmp (kn rfl) (.nil)) (Imp.of_eq (by rw[q];rfl)) rfl
 rw[if_neg (of_decide_eq_false h)]at q
 clear h
 try refine A3 ?_
 refine A2 (AC rfl rfl rfl rfl rfl .nil) ?_
 try refine A3 ?_
 refine AI ?_
 refine OX 100 rfl rfl rfl rfl sl_71 ap_71 rfl rfl ?_
 refine BX ?_
 refine AM ?_
 try refine A3 ?_
 refine A2 (A4 rfl rfl rfl (A1 rfl (kn rfl) off_44_3) (A4 rfl rfl rfl (A5 rfl (kn rfl) rfl rfl one_40) (A4 rfl rfl rfl (AR rfl (kn rfl) sle_40) (A9 rfl rfl rfl rfl rfl .nil)))) ?_
 try refine A3 ?_
 refine AX (ι:={ k:Nat // k<=(e.fields).length })
  (fun k=>[(1,.box 1 0),(3,.is (.int .i64 0)),(4,.own 100),(19,.part (.one (.row 22 (e.fields).length ((e.fields).flatMap CT)))),(20,.is (.int .i64 ((e.fields).length:Int))),(21,.is (.int .i64 (k.1:Int)))])
  (fun _=>[(1,⟨44,bcs (ed e)⟩)]) (fun k=>kR e k.1 0 0) (fun k=>(e.fields).length-k.1) ⟨0,by omega⟩
  (fun K=>AL ⟨s_t,s_t,s_t,s_t,s_t,s_t,trivial⟩ ⟨s_b,trivial⟩ ⟨EI rfl (by simp[DN]) (by simp[DN]),trivial⟩) ?_
 rintro⟨k,hk⟩
 dsimp only at hk ⊢
 try refine A3 ?_
 refine A2 (A4 rfl rfl rfl (A6 rfl (kn rfl) (kn rfl) AY) .nil) ?_
 try refine A3 ?_
 refine AB rfl (fun h=>?_) (fun h=>?_)
 ·have hlt:k<e.fields.length:=by have:=of_decide_eq_true h;omega
  obtain⟨x,hx⟩:∃ x,e.fields[k]?=some x:=⟨_,List.getElem?_eq_getElem hlt⟩
  have hk2:=hk1 k 0 0
  try refine A3 ?_
  refine AI ?_
  refine AQ (AJ rfl (kn rfl) (kn rfl) (by omega) hx BT sle_40 esz_40 (C0 x)) ?_
  refine AQ (AH rfl (kn rfl) agg_59 sz_59) ?_
  refine AW 6 [.is (.int .i64 0),.is (.int .i64 0),.is (.int .i64 0),.is (.int .u64 0),.is (.string ⟨#[]⟩),.is (.slice none 0 0),.is (.string ⟨#[]⟩),.is (.slice none 0 0),.is (.slice none 0 0),.is (.int .i64 0),.is (.int .u64 0),.is (.string ⟨#[]⟩),.is (.slice none 0 0),.is (.string ⟨#[]⟩),.is (.slice none 0 0),.is (.slice none 0 0),.is (.slice none 0 0),.is (.bool false),.is (.string ⟨#[]⟩),.is (.string ⟨#[]⟩),.is (.slice none 0 0),.is (.slice none 0 0)] rfl rfl rfl rfl zr_59 (fun w D M V=>⟨rfl,fun j x v h1 h2=>AV _ h1 h2 rfl⟩) rfl rfl rfl rfl ?_
  refine AT rfl rfl rfl (kn rfl) rfl (kn rfl) rfl rfl sz_59 ?_
  refine AM ?_
  try refine A3 ?_
  refine AI ?_
  refine D9 ?_
  refine AQ (A1 rfl (kn rfl) off_59_1) ?_
  refine AQ (A7 (ds:=[_,_,_,_,_,_,_,_,_,_,_,_,_,_,_,_,_,_,_,_,_]) 21 rfl (kn rfl) rfl rfl agg_44 sz_44 rfl) ?_
  refine AQ (BP (ds:=[_,_,_,_,_,_,_,_,_,_,_,_,_,_,_,_,_,_,_,_,_]) [(0,_)] rfl ⟨rfl,(kn rfl),trivial⟩ rfl sl_71 sz_44 zr_44 (fun w D=>.cons (.cell _) (.cons (.cell _) (.cons (.cell _) (.cons (.cell _) (.cons (.cell _) (.cons (.cell _) (.cons (.cell _) (.cons (.cell _) (.cons (.cell _) (.cons (.cell _) (.cons (.cell _) (.cons (.cell _) (.cons (.cell _) (.cons (.cell _) (.cons (.cell _) (.cons (.cell _) (.cons (.cell _) (.cons (.cell _) (.cons (.cell _) (.cons (.cell _) (.cons (.cell _) (.nil _ _)))))))))))))))))))))) rfl rfl rfl rfl rfl) ?_
  refine CN rfl rfl rfl rfl (kn rfl) rfl (kn rfl) sl_71 ap_71 rfl rfl (by first | omega | (dsimp only;omega)) (by first | omega | (dsimp only;omega)) ?_
  refine BX ?_
  refine AM ?_
  try refine A3 ?_
  refine A2 (A4 rfl rfl rfl (A6 rfl (kn rfl) (kn rfl) (AK (by first | omega | (dsimp only;omega)))) (A9 rfl rfl rfl rfl rfl .nil)) ?_
  try refine A3 ?_
  refine AS ⟨k+1,by omega⟩ (by dsimp only;omega) (fun K=>AL ⟨s_t,s_t,s_t,s_t,s_t,s_t,trivial⟩ ⟨s_b,trivial⟩ ⟨EI rfl (by rw[PN hx,List.length_append];rfl) (by rw[PN hx,RR];rfl),trivial⟩)
 obtain rfl:k=e.fields.length:=by have:=of_decide_eq_false h;omega
 try refine A3 ?_
 refine A2 (A4 rfl rfl rfl (A1 rfl (kn rfl) off_44_7) (A4 rfl rfl rfl (A5 rfl (kn rfl) rfl rfl one_41) (A4 rfl rfl rfl (AR rfl (kn rfl) sle_41) (A9 rfl rfl rfl rfl rfl .nil)))) ?_
 try refine A3 ?_
 refine AX (ι:={ k:Nat // k<=(e.steps).length })
  (fun k=>[(1,.box 1 0),(3,.is (.int .i64 0)),(4,.own 100),(32,.part (.one (.row 30 (e.steps).length ((e.steps).flatMap CA)))),(33,.is (.int .i64 ((e.steps).length:Int))),(34,.is (.int .i64 (k.1:Int)))])
  (fun _=>[(1,⟨44,bcs (ed e)⟩)]) (fun k=>kR e e.fields.length k.1 0) (fun k=>(e.steps).length-k.1) ⟨0,by omega⟩
  (fun K=>AL ⟨s_t,s_t,s_t,s_t,s_t,s_t,trivial⟩ ⟨s_b,trivial⟩ ⟨rfl,trivial⟩) ?_
 rintro⟨k,hk⟩
 dsimp only at hk ⊢
 try refine A3 ?_
 refine A2 (A4 rfl rfl rfl (A6 rfl (kn rfl) (kn rfl) AY) .nil) ?_
 try refine A3 ?_
 refine AB rfl (fun h=>?_) (fun h=>?_)
 ·have hlt:k<e.steps.length:=by have:=of_decide_eq_true h;omega
  obtain⟨x,hx⟩:∃ x,e.steps[k]?=some x:=⟨_,List.getElem?_eq_getElem hlt⟩
  have hk2:=hk1 e.fields.length k 0
  try refine A3 ?_
  refine AI ?_
  refine AQ (AJ rfl (kn rfl) (kn rfl) (by omega) hx BM sle_41 esz_41 (BR x)) ?_
  refine AQ (AH rfl (kn rfl) agg_67 sz_67) ?_
  refine AW 8 [.is (.int .i64 0),.is (.int .i64 0),.is (.int .i64 0),.is (.int .u64 0),.is (.string ⟨#[]⟩),.is (.slice none 0 0),.is (.string ⟨#[]⟩),.is (.slice none 0 0),.is (.slice none 0 0),.is (.int .i64 0),.is (.int .i64 0),.is (.int .u64 0),.is (.string ⟨#[]⟩),.is (.slice none 0 0),.is (.string ⟨#[]⟩),.is (.slice none 0 0),.is (.slice none 0 0),.is (.int .i64 0),.is (.int .u64 0),.is (.string ⟨#[]⟩),.is (.slice none 0 0),.is (.string ⟨#[]⟩),.is (.slice none 0 0),.is (.slice none 0 0),.is (.slice none 0 0),.is (.bool false),.is (.string ⟨#[]⟩),.is (.string ⟨#[]⟩),.is (.slice none 0 0),.is (.slice none 0 0)] rfl rfl rfl rfl zr_67 (fun w D M V=>⟨rfl,fun j x v h1 h2=>AV _ h1 h2 rfl⟩) rfl rfl rfl rfl ?_
  refine AT rfl rfl rfl (kn rfl) rfl (kn rfl) rfl rfl sz_67 ?_
  refine AM ?_
  try refine A3 ?_
  refine AI ?_
  refine D9 ?_
  refine AQ (A1 rfl (kn rfl) off_67_3) ?_
  refine AQ (A7 (ds:=[_,_,_,_,_,_,_,_,_,_,_,_,_,_,_,_,_,_,_,_,_]) 21 rfl (kn rfl) rfl rfl agg_44 sz_44 rfl) ?_
  refine AQ (BP (ds:=[_,_,_,_,_,_,_,_,_,_,_,_,_,_,_,_,_,_,_,_,_]) [(0,_)] rfl ⟨rfl,(kn rfl),trivial⟩ rfl sl_71 sz_44 zr_44 (fun w D=>.cons (.cell _) (.cons (.cell _) (.cons (.cell _) (.cons (.cell _) (.cons (.cell _) (.cons (.cell _) (.cons (.cell _) (.cons (.cell _) (.cons (.cell _) (.cons (.cell _) (.cons (.cell _) (.cons (.cell _) (.cons (.cell _) (.cons (.cell _) (.cons (.cell _) (.cons (.cell _) (.cons (.cell _) (.cons (.cell _) (.cons (.cell _) (.cons (.cell _) (.cons (.cell _) (.nil _ _)))))))))))))))))))))) rfl rfl rfl rfl rfl) ?_
  refine CN rfl rfl rfl rfl (kn rfl) rfl (kn rfl) sl_71 ap_71 rfl rfl (by first | omega | (dsimp only;omega)) (by first | omega | (dsimp only;omega)) ?_
  refine BX ?_
  refine AM ?_
  try refine A3 ?_
  refine A2 (A4 rfl rfl rfl (A6 rfl (kn rfl) (kn rfl) (AK (by first | omega | (dsimp only;omega)))) (A9 rfl rfl rfl rfl rfl .nil)) ?_
  try refine A3 ?_
  refine AS ⟨k+1,by omega⟩ (by dsimp only;omega) (fun K=>AL ⟨s_t,s_t,s_t,s_t,s_t,s_t,trivial⟩ ⟨s_b,trivial⟩ ⟨EI rfl (by rw[PI hx,List.length_append];rfl) (by rw[PI hx,RR];rfl),trivial⟩)
 obtain rfl:k=e.steps.length:=by have:=of_decide_eq_false h;omega
 try refine A3 ?_
 refine A2 (A4 rfl rfl rfl (A1 rfl (kn rfl) off_44_8) (A4 rfl rfl rfl (A5 rfl (kn rfl) rfl rfl one_42) (A4 rfl rfl rfl (AR rfl (kn rfl) sle_42) (A9 rfl rfl rfl rfl rfl .nil)))) ?_
 try refine A3 ?_
 refine AX (ι:={ k:Nat // k<=(e.keys).length })
  (fun k=>[(1,.box 1 0),(3,.is (.int .i64 0)),(4,.own 100),(45,.part (.one (.row 28 (e.keys).length ((e.keys).flatMap CU)))),(46,.is (.int .i64 ((e.keys).length:Int))),(47,.is (.int .i64 (k.1:Int)))])
  (fun _=>[(1,⟨44,bcs (ed e)⟩)]) (fun k=>kR e e.fields.length e.steps.length k.1) (fun k=>(e.keys).length-k.1) ⟨0,by omega⟩
  (fun K=>AL ⟨s_t,s_t,s_t,s_t,s_t,s_t,trivial⟩ ⟨s_b,trivial⟩ ⟨rfl,trivial⟩) ?_
 rintro⟨k,hk⟩
 dsimp only at hk ⊢
 try refine A3 ?_
 refine A2 (A4 rfl rfl rfl (A6 rfl (kn rfl) (kn rfl) AY) .nil) ?_
 try refine A3 ?_
 refine AB rfl (fun h=>?_) (fun h=>?_)
 ·have hlt:k<e.keys.length:=by have:=of_decide_eq_true h;omega
  obtain⟨x,hx⟩:∃ x,e.keys[k]?=some x:=⟨_,List.getElem?_eq_getElem hlt⟩
  have hk2:=hk1 e.fields.length e.steps.length k
  try refine A3 ?_
  refine AI ?_
  refine AQ (AJ rfl (kn rfl) (kn rfl) (by omega) hx BK sle_42 esz_42 (BS x)) ?_
  refine AQ (AH rfl (kn rfl) agg_63 sz_63) ?_
  refine AW 10 [.is (.int .i64 0),.is (.int .u64 0),.is (.string ⟨#[]⟩),.is (.slice none 0 0),.is (.string ⟨#[]⟩),.is (.slice none 0 0),.is (.slice none 0 0),.is (.int .i64 0),.is (.int .i64 0),.is (.int .u64 0),.is (.string ⟨#[]⟩),.is (.slice none 0 0),.is (.string ⟨#[]⟩),.is (.slice none 0 0),.is (.slice none 0 0),.is (.int .i64 0),.is (.int .u64 0),.is (.string ⟨#[]⟩),.is (.slice none 0 0),.is (.string ⟨#[]⟩),.is (.slice none 0 0),.is (.slice none 0 0),.is (.slice none 0 0),.is (.bool false),.is (.string ⟨#[]⟩),.is (.string ⟨#[]⟩),.is (.slice none 0 0),.is (.slice none 0 0)] rfl rfl rfl rfl zr_63 (fun w D M V=>⟨rfl,fun j x v h1 h2=>AV _ h1 h2 rfl⟩) rfl rfl rfl rfl ?_
  refine AT rfl rfl rfl (kn rfl) rfl (kn rfl) rfl rfl sz_63 ?_
  refine AM ?_
  try refine A3 ?_
  refine AI ?_
  refine D9 ?_
  refine AQ (A1 rfl (kn rfl) off_63_1) ?_
  refine AQ (A7 (ds:=[_,_,_,_,_,_,_,_,_,_,_,_,_,_,_,_,_,_,_,_,_]) 21 rfl (kn rfl) rfl rfl agg_44 sz_44 rfl) ?_
  refine AQ (BP (ds:=[_,_,_,_,_,_,_,_,_,_,_,_,_,_,_,_,_,_,_,_,_]) [(0,_)] rfl ⟨rfl,(kn rfl),trivial⟩ rfl sl_71 sz_44 zr_44 (fun w D=>.cons (.cell _) (.cons (.cell _) (.cons (.cell _) (.cons (.cell _) (.cons (.cell _) (.cons (.cell _) (.cons (.cell _) (.cons (.cell _) (.cons (.cell _) (.cons (.cell _) (.cons (.cell _) (.cons (.cell _) (.cons (.cell _) (.cons (.cell _) (.cons (.cell _) (.cons (.cell _) (.cons (.cell _) (.cons (.cell _) (.cons (.cell _) (.cons (.cell _) (.cons (.cell _) (.nil _ _)))))))))))))))))))))) rfl rfl rfl rfl rfl) ?_
  refine CN rfl rfl rfl rfl (kn rfl) rfl (kn rfl) sl_71 ap_71 rfl rfl (by first | omega | (dsimp only;omega)) (by first | omega | (dsimp only;omega)) ?_
  refine BX ?_
  refine AM ?_
  try refine A3 ?_
  refine A2 (A4 rfl rfl rfl (A6 rfl (kn rfl) (kn rfl) (AK (by first | omega | (dsimp only;omega)))) (A9 rfl rfl rfl rfl rfl .nil)) ?_
  try refine A3 ?_
  refine AS ⟨k+1,by omega⟩ (by dsimp only;omega) (fun K=>AL ⟨s_t,s_t,s_t,s_t,s_t,s_t,trivial⟩ ⟨s_b,trivial⟩ ⟨EI rfl (by rw[PY hx,List.length_append];rfl) (by rw[PY hx,RR];rfl),trivial⟩)
 obtain rfl:k=e.keys.length:=by have:=of_decide_eq_false h;omega
 unfold kR
 rw[LW]
 try refine A3 ?_
 refine EN 4 100 rfl rfl rfl ?_
 refine A2 (A9 rfl rfl rfl rfl rfl (A4 rfl rfl rfl (AR rfl (kn rfl) sle_71) (A9 rfl rfl rfl rfl rfl .nil))) ?_
 try refine A3 ?_
 have hd0:∀ x∈e.kids,C7 x<=80:=fun x hx=>(hs.kid hx).bounds.2
 have hL:e.kids.length<=80:=by
  have:=hk1 e.fields.length e.steps.length e.keys.length
  rw[LW]at this
  omega
 generalize e.kids=L at *
 refine AX (ι:={ k:Nat // k<=L.length })
  (fun k=>[(3,.is (.int .i64 ((DS ((L.take k.1).map C7):Nat):Int))),(57,.part (.one (.row 21 L.length (L.flatMap Ed.dats)))),(58,.is (.int .i64 (L.length:Int))),(59,.is (.int .i64 (k.1:Int)))])
  (fun _=>[]) (fun _=>[]) (fun k=>L.length-k.1) ⟨0,by omega⟩
  (fun K=>AL ⟨⟨_,rfl,Imp.of_eq rfl⟩,s_t,s_t,s_t,trivial⟩ trivial trivial) ?_
 rintro⟨k,hk⟩
 dsimp only at hk ⊢
 try refine A3 ?_
 refine A2 (A4 rfl rfl rfl (A6 rfl (kn rfl) (kn rfl) AY) .nil) ?_
 try refine A3 ?_
 refine AB rfl (fun h=>?_) (fun h=>?_)
 ·have hlt:k<L.length:=by have:=of_decide_eq_true h;omega
  obtain⟨x,hx⟩:∃ x,L[k]?=some x:=⟨_,List.getElem?_eq_getElem hlt⟩
  have htk:=DC (f:=C7) hx
  have hd1:=hd0 x (List.mem_of_getElem? hx)
  try refine A3 ?_
  refine AI ?_
  refine AQ (AJ rfl (kn rfl) (kn rfl) (by omega) hx (fun a=>(congrArg List.length (GI a)).trans (UN a)) sle_71 esz_71 (GI x)) ?_
  refine AQ (AH rfl (kn rfl) agg_44 sz_44) ?_
  refine AW 12 [.is (.int .i64 0),.is (.int .i64 0),.is (.int .u64 0),.is (.string ⟨#[]⟩),.is (.slice none 0 0),.is (.string ⟨#[]⟩),.is (.slice none 0 0),.is (.slice none 0 0),.is (.int .i64 0),.is (.int .u64 0),.is (.string ⟨#[]⟩),.is (.slice none 0 0),.is (.string ⟨#[]⟩),.is (.slice none 0 0),.is (.slice none 0 0),.is (.slice none 0 0),.is (.bool false),.is (.string ⟨#[]⟩),.is (.string ⟨#[]⟩),.is (.slice none 0 0),.is (.slice none 0 0)] rfl rfl rfl rfl zr_44 (fun w D M V=>⟨rfl,fun j x v h1 h2=>AV _ h1 h2 rfl⟩) rfl rfl rfl rfl ?_
  refine AT rfl rfl rfl (kn rfl) rfl (kn rfl) rfl rfl sz_44 ?_
  refine AM ?_
  try refine A3 ?_
  refine A2 (A4 rfl rfl rfl (A7 (ds:=[_,_,_,_,_,_,_,_,_,_,_,_,_,_,_,_,_,_,_,_,_]) 21 rfl (kn rfl) rfl rfl agg_44 sz_44 rfl) (A4 rfl rfl rfl (AD rfl (by kernel_rfl) (ih x (List.mem_of_getElem? hx)) ⟨(kn rfl),trivial⟩) (AC rfl rfl rfl rfl rfl .nil))) ?_
  try refine A3 ?_
  refine A2 (A9 rfl rfl rfl rfl rfl (A9 rfl rfl rfl rfl rfl (A4 rfl rfl rfl (A6 rfl (kn rfl) (kn rfl) BN) .nil))) ?_
  try refine A3 ?_
  refine AB rfl (fun h1=>?_) (fun h1=>?_)
  ·try refine A3 ?_
   refine A2 (A9 rfl rfl rfl rfl rfl (AC rfl rfl rfl rfl rfl .nil)) ?_
   try refine A3 ?_
   try refine A3 ?_
   refine A2 (A4 rfl rfl rfl (A6 rfl (kn rfl) (kn rfl) (AK (by first | omega | (dsimp only;omega)))) (A9 rfl rfl rfl rfl rfl .nil)) ?_
   try refine A3 ?_
   refine AS ⟨k+1,by omega⟩ (by dsimp only;omega) (fun K=>AL ⟨⟨_,rfl,Imp.of_eq (by have:=of_decide_eq_true h1;rw[htk];congr 5;omega)⟩,s_t,s_t,s_t,trivial⟩ trivial trivial)
  try refine A3 ?_
  refine A2 (A4 rfl rfl rfl (A6 rfl (kn rfl) (kn rfl) (AK (by first | omega | (dsimp only;omega)))) (A9 rfl rfl rfl rfl rfl .nil)) ?_
  try refine A3 ?_
  refine AS ⟨k+1,by omega⟩ (by dsimp only;omega) (fun K=>AL ⟨⟨_,rfl,Imp.of_eq (by have:=of_decide_eq_false h1;rw[htk];congr 5;omega)⟩,s_t,s_t,s_t,trivial⟩ trivial trivial)
 obtain rfl:k=L.length:=by have:=of_decide_eq_false h;omega
 rw[List.take_length]
 try refine A3 ?_
 refine A2 (A9 rfl rfl rfl rfl rfl (A4 rfl rfl rfl (A6 rfl (kn rfl) (kn rfl) (AK (by first | omega | (dsimp only;omega)))) (AC rfl rfl rfl rfl rfl .nil))) ?_
 try refine A3 ?_
 exact A8 rfl rfl (.tmp (kn rfl) (.nil)) (Imp.of_eq (by rw[q];congr 4)) rfl
theorem QH(e:Ed):e.Sm->KK e:=Ed.kids_ind (P:=fun e=>e.Sm->KK e) (fun e ih h=>MZ e h fun x hx=>ih x hx (h.kid hx)) e
end Go.Proofs.YtojdpgeeajaojaaGreat
