/- Part 13. Conditions: as each theorem says. -/
import Derived.Test.YtojdpgeeajaojaaGreatET12
import Derived.Test.YtojdpgeeajaojaaGreatProg
set_option maxRecDepth 100000
namespace Go.Proofs.YtojdpgeeajaojaaGreat
open Go.RowKit
abbrev zB:List IV:=[.is (.int .i64 0),.is (.int .u64 0),.is (.string ⟨#[]⟩),.is (.slice none 0 0),.is (.string ⟨#[]⟩),.is (.slice none 0 0),.is (.slice none 0 0)]
theorem Q2(l:List (Int×Vl))(x:Int×Vl):(l++[x]).flatMap fieldDats=l.flatMap fieldDats++(.cell (.int .i64 x.1)::vd x.2):=by rw[List.flatMap_append,<- B6];simp
theorem QT(l:List (Vl×Vl))(x:Vl×Vl):(l++[x]).flatMap pairDats=l.flatMap pairDats++(vd x.1++vd x.2):=by rw[List.flatMap_append,<- BA];simp
abbrev ofB(v:Vl):BL:=[(1,⟨27,bcs (vd v)⟩),(2,⟨39,zB⟩),(3,⟨39,[.is (.int .i64 v.kind),.is (.int .u64 (v.num:Int)),.is (.string (str v.text)),.own 100,.is (.string (str v.rest)),.own 101,.own 102]⟩)]
abbrev ofR(v:Vl)(f l p:Nat):RL:=[(100,⟨81,8,f,(v.fields.take f).flatMap fieldDats,false⟩),(101,⟨39,7,l,(v.list.take l).flatMap Vl.dats,false⟩),(102,⟨85,14,p,(v.pairs.take p).flatMap pairDats,false⟩)]
set_option maxHeartbeats 4000000 in
theorem TV(v:Vl)(hn:vnodes v<=1000000)(ih:∀ x∈rkids v,EF Tryz.prog [] 17 [.many (vd x)] (.part (.many (vd x)))):EF Tryz.prog [] 17 [.many (vd v)] (.part (.many (vd v))):=by
 have hlen:=I8 v hn
 have ihf:∀ f∈v.fields,f.2∈rkids v:=fun f h=>by unfold rkids;exact List.mem_append_left _ (List.mem_append_right _ (List.mem_map.2 ⟨f,h,rfl⟩))
 have ihl:∀ f∈v.list,f∈rkids v:=fun f h=>by unfold rkids;exact List.mem_append_left _ (List.mem_append_left _ h)
 have ihp:∀ p∈v.pairs,p.1∈rkids v/\p.2∈rkids v:=fun p h=>by
  unfold rkids BV
  exact⟨List.mem_append_right _ (List.mem_flatMap.2 ⟨p,h,by simp⟩),List.mem_append_right _ (List.mem_flatMap.2 ⟨p,h,by simp⟩)⟩
 refine AG 74 Tryz.func17 rfl rfl rfl fun w D=>?_
 try refine A3 ?_
 refine AI ?_
 refine B9 1 rfl rfl rfl rfl (kn rfl) rfl rfl rfl rfl ?_
 refine AW 2 [.is (.int .i64 0),.is (.int .u64 0),.is (.string ⟨#[]⟩),.is (.slice none 0 0),.is (.string ⟨#[]⟩),.is (.slice none 0 0),.is (.slice none 0 0)] rfl rfl rfl rfl zr_39 (fun w D M V=>⟨rfl,fun j x v h1 h2=>AV _ h1 h2 rfl⟩) rfl rfl rfl rfl ?_
 refine AM ?_
 try refine A3 ?_
 refine AI ?_
 refine AQ (A1 rfl (kn rfl) off_27_0) ?_
 refine AQ (A5 rfl (kn rfl) rfl rfl one_3) ?_
 refine AQ (A1 rfl (kn rfl) off_27_1) ?_
 refine AQ (A5 rfl (kn rfl) rfl rfl one_22) ?_
 refine AQ (A1 rfl (kn rfl) off_27_2) ?_
 refine AQ (A5 rfl (kn rfl) rfl rfl one_9) ?_
 refine AQ (A1 rfl (kn rfl) off_27_4) ?_
 refine AQ (A5 rfl (kn rfl) rfl rfl one_9) ?_
 refine AQ (CD (ds:=[_,_,_,_,_,_,_]) [(0,_),(1,_),(2,_),(4,_)] rfl ⟨rfl,(kn rfl),⟨rfl,(kn rfl),⟨rfl,(kn rfl),⟨rfl,(kn rfl),trivial⟩⟩⟩⟩ rfl pl_39 zr_39 (fun w D=>.cons (.cell _) (.cons (.cell _) (.cons (.cell _) (.cons (.cell _) (.cons (.cell _) (.cons (.cell _) (.cons (.cell _) (.nil _ _)))))))) rfl) ?_
 refine AW 3 [.is (.int .i64 0),.is (.int .u64 0),.is (.string ⟨#[]⟩),.is (.slice none 0 0),.is (.string ⟨#[]⟩),.is (.slice none 0 0),.is (.slice none 0 0)] rfl rfl rfl rfl zr_39 (fun w D M V=>⟨rfl,fun j x v h1 h2=>AV _ h1 h2 rfl⟩) rfl rfl rfl rfl ?_
 refine AT rfl rfl rfl (kn rfl) rfl (kn rfl) rfl rfl sz_39 ?_
 refine AM ?_
 try refine A3 ?_
 refine E8 3 3 100 81 8 rfl rfl rfl rfl rfl ?_
 refine E8 3 5 101 39 7 rfl rfl rfl rfl rfl ?_
 refine E8 3 6 102 85 14 rfl rfl rfl rfl rfl ?_
 refine A2 (A4 rfl rfl rfl (A1 rfl (kn rfl) off_27_3) (A4 rfl rfl rfl (A5 rfl (kn rfl) rfl rfl one_23) (A4 rfl rfl rfl (AR rfl (kn rfl) sle_23) (A9 rfl rfl rfl rfl rfl .nil)))) ?_
 try refine A3 ?_
 refine AX (ι:={ k:Nat // k<=v.fields.length })
  (fun k=>[(1,.box 1 0),(2,.box 2 0),(3,.box 3 0),(20,.part (.one (.row 8 v.fields.length (v.fields.flatMap fieldDats)))),(21,.is (.int .i64 (v.fields.length:Int))),(22,.is (.int .i64 (k.1:Int)))])
  (fun _=>ofB v) (fun k=>ofR v k.1 0 0) (fun k=>v.fields.length-k.1) ⟨0,by omega⟩
  (fun K=>AL ⟨s_t,s_t,s_t,s_t,s_t,s_t,trivial⟩ ⟨s_b,s_b,s_b,trivial⟩ ⟨rfl,rfl,rfl,trivial⟩) ?_
 rintro⟨k,hk⟩
 dsimp only at hk ⊢
 try refine A3 ?_
 refine A2 (A4 rfl rfl rfl (A6 rfl (kn rfl) (kn rfl) AY) .nil) ?_
 try refine A3 ?_
 refine AB rfl (fun h=>?_) (fun h=>?_)
 ·have hlt:k<v.fields.length:=by have:=of_decide_eq_true h;omega
  obtain⟨x,hx⟩:∃ x,v.fields[k]?=some x:=⟨_,List.getElem?_eq_getElem hlt⟩
  have htk:v.fields.take (k+1)=v.fields.take k++[x]:=by rw[List.take_add_one,hx];rfl
  try refine A3 ?_
  refine AI ?_
  refine AQ (AJ rfl (kn rfl) (kn rfl) (by omega) hx B3 sle_23 esz_23 (B6 x)) ?_
  refine AQ (AH rfl (kn rfl) agg_79 sz_79) ?_
  refine AW 5 [.is (.int .i64 0),.is (.int .i64 0),.is (.int .u64 0),.is (.string ⟨#[]⟩),.is (.slice none 0 0),.is (.string ⟨#[]⟩),.is (.slice none 0 0),.is (.slice none 0 0)] rfl rfl rfl rfl zr_79 (fun w D M V=>⟨rfl,fun j x v h1 h2=>AV _ h1 h2 rfl⟩) rfl rfl rfl rfl ?_
  refine AT rfl rfl rfl (kn rfl) rfl (kn rfl) rfl rfl sz_79 ?_
  refine AM ?_
  try refine A3 ?_
  refine CX 9 BF (by kernel_rfl) (A4 rfl rfl rfl (A1 rfl (kn rfl) off_39_3) (A4 rfl rfl rfl (A5 rfl (kn rfl) rfl rfl one_35) (A4 rfl rfl rfl (A1 rfl (kn rfl) off_79_0) (A4 rfl rfl rfl (A5 rfl (kn rfl) rfl rfl one_3) (A4 rfl rfl rfl (A1 rfl (kn rfl) off_79_1) (A4 rfl rfl rfl (A7 (ds:=[_,_,_,_,_,_,_]) 7 rfl (kn rfl) rfl rfl agg_27 sz_27 rfl) (A4 rfl rfl rfl (AD rfl (by kernel_rfl) (ih x.2 (ihf x (List.mem_of_getElem? hx))) ⟨(kn rfl),trivial⟩) (A4 rfl rfl rfl (CD (ds:=[_,_,_,_,_,_,_,_]) [(0,_),(1,_)] rfl ⟨rfl,(kn rfl),⟨rfl,(kn rfl),trivial⟩⟩ rfl pl_81 zr_81 (fun w D=>.cons (.cell _) (.cons (.cell _) (.cons (.cell _) (.cons (.cell _) (.cons (.cell _) (.cons (.cell _) (.cons (.cell _) (.cons (.cell _) (.nil _ _))))))))) rfl) (A4 rfl rfl rfl (BP (ds:=[_,_,_,_,_,_,_,_]) [(0,_)] rfl ⟨rfl,(kn rfl),trivial⟩ rfl sl_35 sz_81 zr_81 (fun w D=>.cons (.cell _) (.cons (.cell _) (.cons (.cell _) (.cons (.cell _) (.cons (.cell _) (.cons (.cell _) (.cons (.cell _) (.cons (.cell _) (.nil _ _))))))))) rfl rfl rfl rfl rfl) .nil))))))))) ?_
  refine CN rfl rfl rfl rfl (kn rfl) rfl (kn rfl) sl_35 ap_35 rfl rfl (by first | omega | (dsimp only;omega)) (by first | omega | (dsimp only;omega)) ?_
  refine AQ (A1 rfl (kn rfl) off_39_3) ?_
  refine DL rfl rfl rfl (kn rfl) rfl (kn rfl) rfl rfl sz_35 rfl ?_
  refine AM ?_
  try refine A3 ?_
  refine A2 (A4 rfl rfl rfl (A6 rfl (kn rfl) (kn rfl) (AK (by first | omega | (dsimp only;omega)))) (A9 rfl rfl rfl rfl rfl .nil)) ?_
  try refine A3 ?_
  refine AS ⟨k+1,by omega⟩ (by dsimp only;omega) (fun K=>AL ⟨s_t,s_t,s_t,s_t,s_t,s_t,trivial⟩ ⟨s_b,s_b,s_b,trivial⟩ ⟨EI rfl rfl (by rw[htk,Q2];rfl),rfl,rfl,trivial⟩)
 obtain rfl:k=v.fields.length:=by have:=of_decide_eq_false h;omega
 try refine A3 ?_
 refine A2 (A4 rfl rfl rfl (A1 rfl (kn rfl) off_27_5) (A4 rfl rfl rfl (A5 rfl (kn rfl) rfl rfl one_24) (A4 rfl rfl rfl (AR rfl (kn rfl) sle_24) (A9 rfl rfl rfl rfl rfl .nil)))) ?_
 try refine A3 ?_
 refine AX (ι:={ k:Nat // k<=v.list.length })
  (fun k=>[(1,.box 1 0),(2,.box 2 0),(3,.box 3 0),(39,.part (lP v.list)),(40,.is (.int .i64 (v.list.length:Int))),(41,.is (.int .i64 (k.1:Int)))])
  (fun _=>ofB v) (fun k=>ofR v v.fields.length k.1 0) (fun k=>v.list.length-k.1) ⟨0,by omega⟩
  (fun K=>AL ⟨s_t,s_t,s_t,s_t,s_t,s_t,trivial⟩ ⟨s_b,s_b,s_b,trivial⟩ ⟨rfl,rfl,rfl,trivial⟩) ?_
 rintro⟨k,hk⟩
 dsimp only at hk ⊢
 try refine A3 ?_
 refine A2 (A4 rfl rfl rfl (A6 rfl (kn rfl) (kn rfl) AY) .nil) ?_
 try refine A3 ?_
 refine AB rfl (fun h=>?_) (fun h=>?_)
 ·have hlt:k<v.list.length:=by have:=of_decide_eq_true h;omega
  obtain⟨x,hx⟩:∃ x,v.list[k]?=some x:=⟨_,List.getElem?_eq_getElem hlt⟩
  have htk:v.list.take (k+1)=v.list.take k++[x]:=by rw[List.take_add_one,hx];rfl
  try refine A3 ?_
  refine AI ?_
  refine AQ (AJ rfl (kn rfl) (kn rfl) (by omega) hx Vl.dats_len sle_24 esz_24 (CB x)) ?_
  refine AQ (AH rfl (kn rfl) agg_27 sz_27) ?_
  refine AW 7 [.is (.int .i64 0),.is (.int .u64 0),.is (.string ⟨#[]⟩),.is (.slice none 0 0),.is (.string ⟨#[]⟩),.is (.slice none 0 0),.is (.slice none 0 0)] rfl rfl rfl rfl zr_27 (fun w D M V=>⟨rfl,fun j x v h1 h2=>AV _ h1 h2 rfl⟩) rfl rfl rfl rfl ?_
  refine AT rfl rfl rfl (kn rfl) rfl (kn rfl) rfl rfl sz_27 ?_
  refine AM ?_
  try refine A3 ?_
  refine CX 5 BF (by kernel_rfl) (A4 rfl rfl rfl (A1 rfl (kn rfl) off_39_5) (A4 rfl rfl rfl (A5 rfl (kn rfl) rfl rfl one_36) (A4 rfl rfl rfl (A7 (ds:=[_,_,_,_,_,_,_]) 7 rfl (kn rfl) rfl rfl agg_27 sz_27 rfl) (A4 rfl rfl rfl (AD rfl (by kernel_rfl) (ih x (ihl x (List.mem_of_getElem? hx))) ⟨(kn rfl),trivial⟩) (A4 rfl rfl rfl (BP (ds:=[_,_,_,_,_,_,_]) [(0,_)] rfl ⟨rfl,(kn rfl),trivial⟩ rfl sl_36 sz_39 zr_39 (fun w D=>.cons (.cell _) (.cons (.cell _) (.cons (.cell _) (.cons (.cell _) (.cons (.cell _) (.cons (.cell _) (.cons (.cell _) (.nil _ _)))))))) rfl rfl rfl rfl rfl) .nil))))) ?_
  refine CN rfl rfl rfl rfl (kn rfl) rfl (kn rfl) sl_36 ap_36 rfl rfl (by first | omega | (dsimp only;omega)) (by first | omega | (dsimp only;omega)) ?_
  refine AQ (A1 rfl (kn rfl) off_39_5) ?_
  refine DL rfl rfl rfl (kn rfl) rfl (kn rfl) rfl rfl sz_36 rfl ?_
  refine AM ?_
  try refine A3 ?_
  refine A2 (A4 rfl rfl rfl (A6 rfl (kn rfl) (kn rfl) (AK (by first | omega | (dsimp only;omega)))) (A9 rfl rfl rfl rfl rfl .nil)) ?_
  try refine A3 ?_
  refine AS ⟨k+1,by omega⟩ (by dsimp only;omega) (fun K=>AL ⟨s_t,s_t,s_t,s_t,s_t,s_t,trivial⟩ ⟨s_b,s_b,s_b,trivial⟩ ⟨rfl,EI rfl rfl (by rw[htk,O5];rfl),rfl,trivial⟩)
 obtain rfl:k=v.list.length:=by have:=of_decide_eq_false h;omega
 try refine A3 ?_
 refine A2 (A4 rfl rfl rfl (A1 rfl (kn rfl) off_27_6) (A4 rfl rfl rfl (A5 rfl (kn rfl) rfl rfl one_25) (A4 rfl rfl rfl (AR rfl (kn rfl) sle_25) (A9 rfl rfl rfl rfl rfl .nil)))) ?_
 try refine A3 ?_
 refine AX (ι:={ k:Nat // k<=v.pairs.length })
  (fun k=>[(1,.box 1 0),(2,.box 2 0),(3,.box 3 0),(54,.part (.one (.row 14 v.pairs.length (v.pairs.flatMap pairDats)))),(55,.is (.int .i64 (v.pairs.length:Int))),(56,.is (.int .i64 (k.1:Int)))])
  (fun _=>ofB v) (fun k=>ofR v v.fields.length v.list.length k.1) (fun k=>v.pairs.length-k.1) ⟨0,by omega⟩
  (fun K=>AL ⟨s_t,s_t,s_t,s_t,s_t,s_t,trivial⟩ ⟨s_b,s_b,s_b,trivial⟩ ⟨rfl,rfl,rfl,trivial⟩) ?_
 rintro⟨k,hk⟩
 dsimp only at hk ⊢
 try refine A3 ?_
 refine A2 (A4 rfl rfl rfl (A6 rfl (kn rfl) (kn rfl) AY) .nil) ?_
 try refine A3 ?_
 refine AB rfl (fun h=>?_) (fun h=>?_)
 ·have hlt:k<v.pairs.length:=by have:=of_decide_eq_true h;omega
  obtain⟨x,hx⟩:∃ x,v.pairs[k]?=some x:=⟨_,List.getElem?_eq_getElem hlt⟩
  have htk:v.pairs.take (k+1)=v.pairs.take k++[x]:=by rw[List.take_add_one,hx];rfl
  try refine A3 ?_
  refine AI ?_
  refine AQ (AJ rfl (kn rfl) (kn rfl) (by omega) hx B5 sle_25 esz_25 (BA x)) ?_
  refine AQ (AH rfl (kn rfl) agg_83 sz_83) ?_
  refine AW 9 [.is (.int .i64 0),.is (.int .u64 0),.is (.string ⟨#[]⟩),.is (.slice none 0 0),.is (.string ⟨#[]⟩),.is (.slice none 0 0),.is (.slice none 0 0),.is (.int .i64 0),.is (.int .u64 0),.is (.string ⟨#[]⟩),.is (.slice none 0 0),.is (.string ⟨#[]⟩),.is (.slice none 0 0),.is (.slice none 0 0)] rfl rfl rfl rfl zr_83 (fun w D M V=>⟨rfl,fun j x v h1 h2=>AV _ h1 h2 rfl⟩) rfl rfl rfl rfl ?_
  refine AT rfl rfl rfl (kn rfl) rfl (kn rfl) rfl rfl sz_83 ?_
  refine AM ?_
  try refine A3 ?_
  refine CX 10 BF (by kernel_rfl) (A4 rfl rfl rfl (A1 rfl (kn rfl) off_39_6) (A4 rfl rfl rfl (A5 rfl (kn rfl) rfl rfl one_37) (A4 rfl rfl rfl (A1 rfl (kn rfl) off_83_0) (A4 rfl rfl rfl (A7 (ds:=[_,_,_,_,_,_,_]) 7 rfl (kn rfl) rfl rfl agg_27 sz_27 rfl) (A4 rfl rfl rfl (AD rfl (by kernel_rfl) (ih x.1 (ihp x (List.mem_of_getElem? hx)).1) ⟨(kn rfl),trivial⟩) (A4 rfl rfl rfl (A1 rfl (kn rfl) off_83_1) (A4 rfl rfl rfl (A7 (ds:=[_,_,_,_,_,_,_]) 7 rfl (kn rfl) rfl rfl agg_27 sz_27 rfl) (A4 rfl rfl rfl (AD rfl (by kernel_rfl) (ih x.2 (ihp x (List.mem_of_getElem? hx)).2) ⟨(kn rfl),trivial⟩) (A4 rfl rfl rfl (CD (ds:=[_,_,_,_,_,_,_,_,_,_,_,_,_,_]) [(0,_),(1,_)] rfl ⟨rfl,(kn rfl),⟨rfl,(kn rfl),trivial⟩⟩ rfl pl_85 zr_85 (fun w D=>.cons (.cell _) (.cons (.cell _) (.cons (.cell _) (.cons (.cell _) (.cons (.cell _) (.cons (.cell _) (.cons (.cell _) (.cons (.cell _) (.cons (.cell _) (.cons (.cell _) (.cons (.cell _) (.cons (.cell _) (.cons (.cell _) (.cons (.cell _) (.nil _ _))))))))))))))) rfl) (A4 rfl rfl rfl (BP (ds:=[_,_,_,_,_,_,_,_,_,_,_,_,_,_]) [(0,_)] rfl ⟨rfl,(kn rfl),trivial⟩ rfl sl_37 sz_85 zr_85 (fun w D=>.cons (.cell _) (.cons (.cell _) (.cons (.cell _) (.cons (.cell _) (.cons (.cell _) (.cons (.cell _) (.cons (.cell _) (.cons (.cell _) (.cons (.cell _) (.cons (.cell _) (.cons (.cell _) (.cons (.cell _) (.cons (.cell _) (.cons (.cell _) (.nil _ _))))))))))))))) rfl rfl rfl rfl rfl) .nil)))))))))) ?_
  refine CN rfl rfl rfl rfl (kn rfl) rfl (kn rfl) sl_37 ap_37 rfl rfl (by first | omega | (dsimp only;omega)) (by first | omega | (dsimp only;omega)) ?_
  refine AQ (A1 rfl (kn rfl) off_39_6) ?_
  refine DL rfl rfl rfl (kn rfl) rfl (kn rfl) rfl rfl sz_37 rfl ?_
  refine AM ?_
  try refine A3 ?_
  refine A2 (A4 rfl rfl rfl (A6 rfl (kn rfl) (kn rfl) (AK (by first | omega | (dsimp only;omega)))) (A9 rfl rfl rfl rfl rfl .nil)) ?_
  try refine A3 ?_
  refine AS ⟨k+1,by omega⟩ (by dsimp only;omega) (fun K=>AL ⟨s_t,s_t,s_t,s_t,s_t,s_t,trivial⟩ ⟨s_b,s_b,s_b,trivial⟩ ⟨rfl,rfl,EI rfl rfl (by rw[htk,QT];rfl),trivial⟩)
 obtain rfl:k=v.pairs.length:=by have:=of_decide_eq_false h;omega
 try refine A3 ?_
 refine D4 3 3 100 rfl rfl rfl rfl rfl ?_
 refine D4 3 5 101 rfl rfl rfl rfl rfl ?_
 refine D4 3 6 102 rfl rfl rfl rfl rfl ?_
 dsimp only
 rw[List.take_length,List.take_length,List.take_length]
 refine AI ?_
 refine AQ (A7 (ds:=[_,_,_,_,_,_,_]) 7 rfl (kn rfl) rfl rfl agg_39 sz_39 rfl) ?_
 refine AT rfl rfl rfl (kn rfl) rfl (kn rfl) rfl rfl sz_39 ?_
 refine AM ?_
 try refine A3 ?_
 exact A8 rfl rfl (.cell rfl rfl rfl agg_39 sz_39 rfl (.nil)) (Imp.of_eq rfl) rfl
theorem LS(v:Vl):vnodes v<=1000000->EF Tryz.prog [] 17 [.many (vd v)] (.part (.many (vd v))):=
 I5 (P:=fun v=>vnodes v<=1000000->EF Tryz.prog [] 17 [.many (vd v)] (.part (.many (vd v)))) (fun v ih hn=>TV v hn fun x hx=>ih x hx (by have:=(EP hx).2.2;omega)) v
theorem K2{P:Program}{t:TypeId}(d:Nat)(h:d<=1000):FM P .sub t (.int .i64 ((d+1:Nat):Int)) (.int .i64 1) (.int .i64 (d:Int)):=by
 have:=CV (P:=P) (t:=t) (m:=((d+1:Nat):Int)) (n:=1) (by omega)
 rwa [show((d+1:Nat):Int)-1=(d:Int) by omega]at this
theorem GB{g:Vl->Int->Int}{l:Int}{x:Vl}(h:0<=l):C4 g l x=g x l:=if_pos h
theorem G0{g:Vl->Int->Int}{l:Int}{x:Vl}(h:¬ 0<=l):C4 g l x=l:=if_neg h
def M2(d:Nat):Prop:=∀ (v:Vl) (left:Int),v.Fine->0<=left->left<=1000000->EF Tryz.prog [] 71 [.many (vd v),iP left,iP (d:Int)] (.part (iP (BE d v left)))
theorem P8:M2 0:=by
 intro v left hv h0 h1
 refine AG 85 Tryz.func71 rfl rfl rfl fun w D=>?_
 try refine A3 ?_
 refine AI ?_
 refine B9 3 rfl rfl rfl rfl (kn rfl) rfl rfl rfl rfl ?_
 refine BX ?_
 refine AM ?_
 try refine A3 ?_
 refine A2 (A9 rfl rfl rfl rfl rfl (A4 rfl rfl rfl (A6 rfl (kn rfl) (kn rfl) AP) (A9 rfl rfl rfl rfl rfl (Walk.gd _ rfl rfl rfl (fun h=>A1 rfl (kn rfl) off_27_2) (Walk.gd _ rfl rfl rfl (fun h=>A5 rfl (A0 rfl h) rfl rfl one_9) (Walk.gd _ rfl rfl rfl (fun h=>DB rfl (A0 rfl h) str_9) (Walk.gd _ rfl rfl rfl (fun h=>A6 rfl (A0 rfl h) (kn rfl) BN) (A4 rfl rfl rfl (BO rfl (kn rfl) (fun hb=>A0 rfl hb)) (A9 rfl rfl rfl rfl rfl (Walk.gd _ rfl rfl rfl (fun h=>A1 rfl (kn rfl) off_27_4) (Walk.gd _ rfl rfl rfl (fun h=>A5 rfl (A0 rfl h) rfl rfl one_9) (Walk.gd _ rfl rfl rfl (fun h=>DB rfl (A0 rfl h) str_9) (Walk.gd _ rfl rfl rfl (fun h=>A6 rfl (A0 rfl h) (kn rfl) BN) (A4 rfl rfl rfl (BO rfl (kn rfl) (fun hb=>A0 rfl hb)) .nil)))))))))))))) ?_
 try refine A3 ?_
 refine AB rfl (fun h=>?_) (fun h=>?_)
 ·try refine A3 ?_
  refine A2 (AC rfl rfl rfl rfl rfl .nil) ?_
  try refine A3 ?_
  exact A8 rfl rfl (.tmp (kn rfl) (.nil)) (Imp.of_eq rfl) rfl
 ·simp at h
set_option maxHeartbeats 4000000 in
theorem OO(d:Nat)(hd:d<=1000)(ih:M2 d):M2 (d+1):=by
 intro v left hv h0 h1
 have hmax:maxLen<=9223372036854775807:=by decide
 obtain⟨a1,a2,a3,a4,a5,a6,a7,a8⟩:=hv.bounds
 have hgb:∀ (xs:List Vl) (l:Int),-1<=l -> -1<=xs.foldl (C4 (BE d)) l/\xs.foldl (C4 (BE d)) l<=l:=fun xs l h=>HA (BE d) (fun x l hl=>GP d x l hl) xs l h
 have e:¬ (400<v.text.length\/400<v.rest.length)->BE (d+1) v left=(BV v.pairs).foldl (C4 (BE d)) (v.list.foldl (C4 (BE d)) ((v.fields.map (·.2)).foldl (C4 (BE d)) (left-1))):=fun h=>by
  rw[BE,if_neg h,gkids,List.foldl_append,List.foldl_append]
  rfl
 refine AG 85 Tryz.func71 rfl rfl rfl fun w D=>?_
 try refine A3 ?_
 refine AI ?_
 refine B9 3 rfl rfl rfl rfl (kn rfl) rfl rfl rfl rfl ?_
 refine BX ?_
 refine AM ?_
 try refine A3 ?_
 refine A2 (A9 rfl rfl rfl rfl rfl (A4 rfl rfl rfl (A6 rfl (kn rfl) (kn rfl) AP) (A9 rfl rfl rfl rfl rfl (Walk.gd _ rfl rfl rfl (fun h=>A1 rfl (kn rfl) off_27_2) (Walk.gd _ rfl rfl rfl (fun h=>A5 rfl (A0 rfl h) rfl rfl one_9) (Walk.gd _ rfl rfl rfl (fun h=>DB rfl (A0 rfl h) str_9) (Walk.gd _ rfl rfl rfl (fun h=>A6 rfl (A0 rfl h) (kn rfl) BN) (A4 rfl rfl rfl (BO rfl (kn rfl) (fun hb=>A0 rfl hb)) (A9 rfl rfl rfl rfl rfl (Walk.gd _ rfl rfl rfl (fun h=>A1 rfl (kn rfl) off_27_4) (Walk.gd _ rfl rfl rfl (fun h=>A5 rfl (A0 rfl h) rfl rfl one_9) (Walk.gd _ rfl rfl rfl (fun h=>DB rfl (A0 rfl h) str_9) (Walk.gd _ rfl rfl rfl (fun h=>A6 rfl (A0 rfl h) (kn rfl) BN) (A4 rfl rfl rfl (BO rfl (kn rfl) (fun hb=>A0 rfl hb)) .nil)))))))))))))) ?_
 try refine A3 ?_
 refine AB rfl (fun h=>?_) (fun h=>?_)
 ·have e2:BE (d+1) v left = -1:=by
   simp only[Bool.or_eq_true,decide_eq_true_eq]at h
   rw[BE]
   exact if_pos (by omega)
  try refine A3 ?_
  refine A2 (AC rfl rfl rfl rfl rfl .nil) ?_
  try refine A3 ?_
  exact A8 rfl rfl (.tmp (kn rfl) (.nil)) (Imp.of_eq (by rw[e2];rfl)) rfl
 have e2:=e (by
  simp only[Bool.or_eq_false_iff,decide_eq_false_iff_not]at h
  omega)
 clear e h
 try refine A3 ?_
 refine A2 (A9 rfl rfl rfl rfl rfl (A4 rfl rfl rfl (A6 rfl (kn rfl) (kn rfl) (CV (by first | omega | (dsimp only;omega)))) (AC rfl rfl rfl rfl rfl .nil))) ?_
 try refine A3 ?_
 refine A2 (A4 rfl rfl rfl (A1 rfl (kn rfl) off_27_3) (A4 rfl rfl rfl (A5 rfl (kn rfl) rfl rfl one_23) (A4 rfl rfl rfl (AR rfl (kn rfl) sle_23) (A9 rfl rfl rfl rfl rfl .nil)))) ?_
 try refine A3 ?_
 refine AX (ι:={ k:Nat // k<=(v.fields).length })
  (fun k=>[(1,.is (.int .i64 ((fun k=>((v.fields.map (·.2)).take k).foldl (C4 (BE d)) (left-1)) k.1))),(2,.is (.int .i64 ((d+1:Nat):Int))),(3,.box 3 0),(30,.part (.one (.row 8 (v.fields).length ((v.fields).flatMap fieldDats)))),(31,.is (.int .i64 ((v.fields).length:Int))),(32,.is (.int .i64 (k.1:Int)))])
  (fun _=>[(3,⟨27,bcs (vd v)⟩)]) (fun _=>[]) (fun k=>(v.fields).length-k.1) ⟨0,by omega⟩
  (fun K=>AL ⟨s_t,s_t,s_t,s_t,s_t,s_t,trivial⟩ ⟨s_b,trivial⟩ trivial) ?_
 rintro⟨k,hk⟩
 dsimp only at hk ⊢
 try refine A3 ?_
 refine A2 (A4 rfl rfl rfl (A6 rfl (kn rfl) (kn rfl) AY) .nil) ?_
 try refine A3 ?_
 refine AB rfl (fun h=>?_) (fun h=>?_)
 ·have hlt:k<v.fields.length:=by have:=of_decide_eq_true h;omega
  obtain⟨x,hx⟩:∃ x,v.fields[k]?=some x:=⟨_,List.getElem?_eq_getElem hlt⟩
  have hft:((v.fields.map (·.2)).take (k+1)).foldl (C4 (BE d)) (left-1)=C4 (BE d) (((v.fields.map (·.2)).take k).foldl (C4 (BE d)) (left-1)) x.2:=LI (by rw[List.getElem?_map,hx];rfl)
  have hb:=hgb ((v.fields.map (·.2)).take k) (left-1) (by omega)
  generalize((v.fields.map (·.2)).take k).foldl (C4 (BE d)) (left-1)=M at hft hb ⊢
  try refine A3 ?_
  refine AI ?_
  refine AQ (AJ rfl (kn rfl) (kn rfl) (by omega) hx B3 sle_23 esz_23 (B6 x)) ?_
  refine AQ (AH rfl (kn rfl) agg_79 sz_79) ?_
  refine AW 8 [.is (.int .i64 0),.is (.int .i64 0),.is (.int .u64 0),.is (.string ⟨#[]⟩),.is (.slice none 0 0),.is (.string ⟨#[]⟩),.is (.slice none 0 0),.is (.slice none 0 0)] rfl rfl rfl rfl zr_79 (fun w D M V=>⟨rfl,fun j x v h1 h2=>AV _ h1 h2 rfl⟩) rfl rfl rfl rfl ?_
  refine AT rfl rfl rfl (kn rfl) rfl (kn rfl) rfl rfl sz_79 ?_
  refine AM ?_
  try refine A3 ?_
  refine A2 (A9 rfl rfl rfl rfl rfl (A4 rfl rfl rfl (A6 rfl (kn rfl) (kn rfl) CM) .nil)) ?_
  try refine A3 ?_
  refine AB rfl (fun h2=>?_) (fun h2=>?_)
  ·have hM:=of_decide_eq_true h2
   rw[GB hM]at hft
   try refine A3 ?_
   refine A2 (A4 rfl rfl rfl (A1 rfl (kn rfl) off_79_1) (A4 rfl rfl rfl (A7 (ds:=[_,_,_,_,_,_,_]) 7 rfl (kn rfl) rfl rfl agg_27 sz_27 rfl) (A9 rfl rfl rfl rfl rfl (A9 rfl rfl rfl rfl rfl (A4 rfl rfl rfl (A6 rfl (kn rfl) (kn rfl) (K2 d hd)) (A4 rfl rfl rfl (AD rfl (by kernel_rfl) (ih x.2 M (hv.field (List.mem_of_getElem? hx)).2 hM (by omega)) ⟨(kn rfl),⟨(kn rfl),⟨(kn rfl),trivial⟩⟩⟩) (AC rfl rfl rfl rfl rfl .nil))))))) ?_
   try refine A3 ?_
   try refine A3 ?_
   refine A2 (A4 rfl rfl rfl (A6 rfl (kn rfl) (kn rfl) (AK (by first | omega | (dsimp only;omega)))) (A9 rfl rfl rfl rfl rfl .nil)) ?_
   try refine A3 ?_
   refine AS ⟨k+1,by omega⟩ (by dsimp only;omega) (fun K=>AL ⟨⟨_,rfl,Imp.of_eq (by rw[hft])⟩,s_t,s_t,s_t,s_t,s_t,trivial⟩ ⟨s_b,trivial⟩ trivial)
  ·rw[G0 (of_decide_eq_false h2)]at hft
   try refine A3 ?_
   refine A2 (A4 rfl rfl rfl (A6 rfl (kn rfl) (kn rfl) (AK (by first | omega | (dsimp only;omega)))) (A9 rfl rfl rfl rfl rfl .nil)) ?_
   try refine A3 ?_
   refine AS ⟨k+1,by omega⟩ (by dsimp only;omega) (fun K=>AL ⟨⟨_,rfl,Imp.of_eq (by rw[hft])⟩,s_t,s_t,s_t,s_t,s_t,trivial⟩ ⟨s_b,trivial⟩ trivial)
 obtain rfl:k=v.fields.length:=by have:=of_decide_eq_false h;omega
 rw[List.take_of_length_le (by simp)]
 have hb1:=hgb (v.fields.map (·.2)) (left-1) (by omega)
 generalize(v.fields.map (·.2)).foldl (C4 (BE d)) (left-1)=L1 at hb1 e2 ⊢
 try refine A3 ?_
 refine A2 (A4 rfl rfl rfl (A1 rfl (kn rfl) off_27_5) (A4 rfl rfl rfl (A5 rfl (kn rfl) rfl rfl one_24) (A4 rfl rfl rfl (AR rfl (kn rfl) sle_24) (A9 rfl rfl rfl rfl rfl .nil)))) ?_
 try refine A3 ?_
 refine AX (ι:={ k:Nat // k<=(v.list).length })
  (fun k=>[(1,.is (.int .i64 ((fun k=>(v.list.take k).foldl (C4 (BE d)) L1) k.1))),(2,.is (.int .i64 ((d+1:Nat):Int))),(3,.box 3 0),(46,.part (.one (.row 7 (v.list).length ((v.list).flatMap Vl.dats)))),(47,.is (.int .i64 ((v.list).length:Int))),(48,.is (.int .i64 (k.1:Int)))])
  (fun _=>[(3,⟨27,bcs (vd v)⟩)]) (fun _=>[]) (fun k=>(v.list).length-k.1) ⟨0,by omega⟩
  (fun K=>AL ⟨s_t,s_t,s_t,s_t,s_t,s_t,trivial⟩ ⟨s_b,trivial⟩ trivial) ?_
 rintro⟨k,hk⟩
 dsimp only at hk ⊢
 try refine A3 ?_
 refine A2 (A4 rfl rfl rfl (A6 rfl (kn rfl) (kn rfl) AY) .nil) ?_
 try refine A3 ?_
 refine AB rfl (fun h=>?_) (fun h=>?_)
 ·have hlt:k<v.list.length:=by have:=of_decide_eq_true h;omega
  obtain⟨x,hx⟩:∃ x,v.list[k]?=some x:=⟨_,List.getElem?_eq_getElem hlt⟩
  have hft:(v.list.take (k+1)).foldl (C4 (BE d)) L1=C4 (BE d) ((v.list.take k).foldl (C4 (BE d)) L1) x:=LI hx
  have hb:=hgb (v.list.take k) L1 (by omega)
  generalize(v.list.take k).foldl (C4 (BE d)) L1=M at hft hb ⊢
  try refine A3 ?_
  refine AI ?_
  refine AQ (AJ rfl (kn rfl) (kn rfl) (by omega) hx Vl.dats_len sle_24 esz_24 (CB x)) ?_
  refine AQ (AH rfl (kn rfl) agg_27 sz_27) ?_
  refine AW 10 [.is (.int .i64 0),.is (.int .u64 0),.is (.string ⟨#[]⟩),.is (.slice none 0 0),.is (.string ⟨#[]⟩),.is (.slice none 0 0),.is (.slice none 0 0)] rfl rfl rfl rfl zr_27 (fun w D M V=>⟨rfl,fun j x v h1 h2=>AV _ h1 h2 rfl⟩) rfl rfl rfl rfl ?_
  refine AT rfl rfl rfl (kn rfl) rfl (kn rfl) rfl rfl sz_27 ?_
  refine AM ?_
  try refine A3 ?_
  refine A2 (A9 rfl rfl rfl rfl rfl (A4 rfl rfl rfl (A6 rfl (kn rfl) (kn rfl) CM) .nil)) ?_
  try refine A3 ?_
  refine AB rfl (fun h2=>?_) (fun h2=>?_)
  ·have hM:=of_decide_eq_true h2
   rw[GB hM]at hft
   try refine A3 ?_
   refine A2 (A4 rfl rfl rfl (A7 (ds:=[_,_,_,_,_,_,_]) 7 rfl (kn rfl) rfl rfl agg_27 sz_27 rfl) (A9 rfl rfl rfl rfl rfl (A9 rfl rfl rfl rfl rfl (A4 rfl rfl rfl (A6 rfl (kn rfl) (kn rfl) (K2 d hd)) (A4 rfl rfl rfl (AD rfl (by kernel_rfl) (ih x M (hv.elem (List.mem_of_getElem? hx)) hM (by omega)) ⟨(kn rfl),⟨(kn rfl),⟨(kn rfl),trivial⟩⟩⟩) (AC rfl rfl rfl rfl rfl .nil)))))) ?_
   try refine A3 ?_
   try refine A3 ?_
   refine A2 (A4 rfl rfl rfl (A6 rfl (kn rfl) (kn rfl) (AK (by first | omega | (dsimp only;omega)))) (A9 rfl rfl rfl rfl rfl .nil)) ?_
   try refine A3 ?_
   refine AS ⟨k+1,by omega⟩ (by dsimp only;omega) (fun K=>AL ⟨⟨_,rfl,Imp.of_eq (by rw[hft])⟩,s_t,s_t,s_t,s_t,s_t,trivial⟩ ⟨s_b,trivial⟩ trivial)
  ·rw[G0 (of_decide_eq_false h2)]at hft
   try refine A3 ?_
   refine A2 (A4 rfl rfl rfl (A6 rfl (kn rfl) (kn rfl) (AK (by first | omega | (dsimp only;omega)))) (A9 rfl rfl rfl rfl rfl .nil)) ?_
   try refine A3 ?_
   refine AS ⟨k+1,by omega⟩ (by dsimp only;omega) (fun K=>AL ⟨⟨_,rfl,Imp.of_eq (by rw[hft])⟩,s_t,s_t,s_t,s_t,s_t,trivial⟩ ⟨s_b,trivial⟩ trivial)
 obtain rfl:k=v.list.length:=by have:=of_decide_eq_false h;omega
 rw[List.take_length]
 have hb2:=hgb v.list L1 (by omega)
 generalize v.list.foldl (C4 (BE d)) L1=L2 at hb2 e2 ⊢
 try refine A3 ?_
 refine A2 (A4 rfl rfl rfl (A1 rfl (kn rfl) off_27_6) (A4 rfl rfl rfl (A5 rfl (kn rfl) rfl rfl one_25) (A4 rfl rfl rfl (AR rfl (kn rfl) sle_25) (A9 rfl rfl rfl rfl rfl .nil)))) ?_
 try refine A3 ?_
 refine AX (ι:={ k:Nat // k<=(v.pairs).length })
  (fun k=>[(1,.is (.int .i64 ((fun k=>(BV (v.pairs.take k)).foldl (C4 (BE d)) L2) k.1))),(2,.is (.int .i64 ((d+1:Nat):Int))),(3,.box 3 0),(61,.part (.one (.row 14 (v.pairs).length ((v.pairs).flatMap pairDats)))),(62,.is (.int .i64 ((v.pairs).length:Int))),(63,.is (.int .i64 (k.1:Int)))])
  (fun _=>[(3,⟨27,bcs (vd v)⟩)]) (fun _=>[]) (fun k=>(v.pairs).length-k.1) ⟨0,by omega⟩
  (fun K=>AL ⟨s_t,s_t,s_t,s_t,s_t,s_t,trivial⟩ ⟨s_b,trivial⟩ trivial) ?_
 rintro⟨k,hk⟩
 dsimp only at hk ⊢
 try refine A3 ?_
 refine A2 (A4 rfl rfl rfl (A6 rfl (kn rfl) (kn rfl) AY) .nil) ?_
 try refine A3 ?_
 refine AB rfl (fun h=>?_) (fun h=>?_)
 ·have hlt:k<v.pairs.length:=by have:=of_decide_eq_true h;omega
  obtain⟨x,hx⟩:∃ x,v.pairs[k]?=some x:=⟨_,List.getElem?_eq_getElem hlt⟩
  have hft:=N7 (g:=C4 (BE d)) (l:=L2) hx
  have hb:=hgb (BV (v.pairs.take k)) L2 (by omega)
  generalize(BV (v.pairs.take k)).foldl (C4 (BE d)) L2=M at hft hb ⊢
  try refine A3 ?_
  refine AI ?_
  refine AQ (AJ rfl (kn rfl) (kn rfl) (by omega) hx B5 sle_25 esz_25 (BA x)) ?_
  refine AQ (AH rfl (kn rfl) agg_83 sz_83) ?_
  refine AW 12 [.is (.int .i64 0),.is (.int .u64 0),.is (.string ⟨#[]⟩),.is (.slice none 0 0),.is (.string ⟨#[]⟩),.is (.slice none 0 0),.is (.slice none 0 0),.is (.int .i64 0),.is (.int .u64 0),.is (.string ⟨#[]⟩),.is (.slice none 0 0),.is (.string ⟨#[]⟩),.is (.slice none 0 0),.is (.slice none 0 0)] rfl rfl rfl rfl zr_83 (fun w D M V=>⟨rfl,fun j x v h1 h2=>AV _ h1 h2 rfl⟩) rfl rfl rfl rfl ?_
  refine AT rfl rfl rfl (kn rfl) rfl (kn rfl) rfl rfl sz_83 ?_
  refine AM ?_
  try refine A3 ?_
  refine A2 (A9 rfl rfl rfl rfl rfl (A4 rfl rfl rfl (A6 rfl (kn rfl) (kn rfl) CM) .nil)) ?_
  try refine A3 ?_
  refine AB rfl (fun h2=>?_) (fun h2=>?_)
  ·have hM:=of_decide_eq_true h2
   rw[GB hM]at hft
   have hbd:=GP d x.1 M hM
   try refine A3 ?_
   refine A2 (A4 rfl rfl rfl (A1 rfl (kn rfl) off_83_0) (A4 rfl rfl rfl (A7 (ds:=[_,_,_,_,_,_,_]) 7 rfl (kn rfl) rfl rfl agg_27 sz_27 rfl) (A9 rfl rfl rfl rfl rfl (A9 rfl rfl rfl rfl rfl (A4 rfl rfl rfl (A6 rfl (kn rfl) (kn rfl) (K2 d hd)) (A4 rfl rfl rfl (AD rfl (by kernel_rfl) (ih x.1 M (hv.pair (List.mem_of_getElem? hx)).1 hM (by omega)) ⟨(kn rfl),⟨(kn rfl),⟨(kn rfl),trivial⟩⟩⟩) (AC rfl rfl rfl rfl rfl .nil))))))) ?_
   try refine A3 ?_
   try refine A3 ?_
   refine A2 (A9 rfl rfl rfl rfl rfl (A4 rfl rfl rfl (A6 rfl (kn rfl) (kn rfl) CM) .nil)) ?_
   try refine A3 ?_
   refine AB rfl (fun h3=>?_) (fun h3=>?_)
   ·have hM2:=of_decide_eq_true h3
    rw[GB hM2]at hft
    try refine A3 ?_
    refine A2 (A4 rfl rfl rfl (A1 rfl (kn rfl) off_83_1) (A4 rfl rfl rfl (A7 (ds:=[_,_,_,_,_,_,_]) 7 rfl (kn rfl) rfl rfl agg_27 sz_27 rfl) (A9 rfl rfl rfl rfl rfl (A9 rfl rfl rfl rfl rfl (A4 rfl rfl rfl (A6 rfl (kn rfl) (kn rfl) (K2 d hd)) (A4 rfl rfl rfl (AD rfl (by kernel_rfl) (ih x.2 (BE d x.1 M) (hv.pair (List.mem_of_getElem? hx)).2 hM2 (by omega)) ⟨(kn rfl),⟨(kn rfl),⟨(kn rfl),trivial⟩⟩⟩) (AC rfl rfl rfl rfl rfl .nil))))))) ?_
    try refine A3 ?_
    try refine A3 ?_
    refine A2 (A4 rfl rfl rfl (A6 rfl (kn rfl) (kn rfl) (AK (by first | omega | (dsimp only;omega)))) (A9 rfl rfl rfl rfl rfl .nil)) ?_
    try refine A3 ?_
    refine AS ⟨k+1,by omega⟩ (by dsimp only;omega) (fun K=>AL ⟨⟨_,rfl,Imp.of_eq (by rw[hft])⟩,s_t,s_t,s_t,s_t,s_t,trivial⟩ ⟨s_b,trivial⟩ trivial)
   ·rw[G0 (of_decide_eq_false h3)]at hft
    try refine A3 ?_
    refine A2 (A4 rfl rfl rfl (A6 rfl (kn rfl) (kn rfl) (AK (by first | omega | (dsimp only;omega)))) (A9 rfl rfl rfl rfl rfl .nil)) ?_
    try refine A3 ?_
    refine AS ⟨k+1,by omega⟩ (by dsimp only;omega) (fun K=>AL ⟨⟨_,rfl,Imp.of_eq (by rw[hft])⟩,s_t,s_t,s_t,s_t,s_t,trivial⟩ ⟨s_b,trivial⟩ trivial)
  ·rw[G0 (of_decide_eq_false h2),G0 (of_decide_eq_false h2)]at hft
   try refine A3 ?_
   refine A2 (A9 rfl rfl rfl rfl rfl (A4 rfl rfl rfl (A6 rfl (kn rfl) (kn rfl) CM) .nil)) ?_
   try refine A3 ?_
   refine AB rfl (fun h3=>?_) (fun h3=>?_)
   ·exact absurd (of_decide_eq_true h3) (of_decide_eq_false h2)
   try refine A3 ?_
   refine A2 (A4 rfl rfl rfl (A6 rfl (kn rfl) (kn rfl) (AK (by first | omega | (dsimp only;omega)))) (A9 rfl rfl rfl rfl rfl .nil)) ?_
   try refine A3 ?_
   refine AS ⟨k+1,by omega⟩ (by dsimp only;omega) (fun K=>AL ⟨⟨_,rfl,Imp.of_eq (by rw[hft])⟩,s_t,s_t,s_t,s_t,s_t,trivial⟩ ⟨s_b,trivial⟩ trivial)
 obtain rfl:k=v.pairs.length:=by have:=of_decide_eq_false h;omega
 rw[List.take_length]
 try refine A3 ?_
 refine A2 (A9 rfl rfl rfl rfl rfl (AC rfl rfl rfl rfl rfl .nil)) ?_
 try refine A3 ?_
 exact A8 rfl rfl (.tmp (kn rfl) (.nil)) (Imp.of_eq (by rw[e2];rfl)) rfl
theorem N3:∀ d:Nat,d<=1000->M2 d
 | 0,_=>P8
 | d+1,h=>OO d (by omega) (N3 d (by omega))
def OQ(v:Vl)(most:Int):Bool:=decide (BE 30 v most<0)
theorem I1(v:Vl)(most:Int)(hv:v.Fine)(h0:0<=most)(h1:most<=1000000):EF Tryz.prog [] 31 [.many (vd v),iP most] (.part (tP (OQ v most))):=by
 refine AG 9 Tryz.func31 rfl rfl rfl fun w D=>?_
 try refine A3 ?_
 refine AI ?_
 refine B9 2 rfl rfl rfl rfl (kn rfl) rfl rfl rfl rfl ?_
 refine BX ?_
 refine AM ?_
 try refine A3 ?_
 refine A2 (A4 rfl rfl rfl (A7 (ds:=[_,_,_,_,_,_,_]) 7 rfl (kn rfl) rfl rfl agg_27 sz_27 rfl) (A9 rfl rfl rfl rfl rfl (A4 rfl rfl rfl (AD rfl (by kernel_rfl) (N3 30 (by omega) v most hv h0 h1) ⟨(kn rfl),⟨(kn rfl),⟨(kn rfl),trivial⟩⟩⟩) (A4 rfl rfl rfl (A6 rfl (kn rfl) (kn rfl) AY) (AC rfl rfl rfl rfl rfl .nil))))) ?_
 try refine A3 ?_
 exact A8 rfl rfl (.tmp (kn rfl) (.nil)) (Imp.of_eq rfl) rfl
theorem TK{v:Vl}{most:Int}(h0:0<=most)(h:OQ v most=false):(vnodes v:Int)<=most/\v.Tx:=by
 have h1:=of_decide_eq_false h
 have h2:=L6 30 v most h0 (by omega)
 exact⟨by omega,h2.2.tx⟩
end Go.Proofs.YtojdpgeeajaojaaGreat
