/- Part 11. Conditions: as each theorem says. -/
import Derived.Test.YtecfdcdkkgmkpaaIO10
import Derived.Test.YtecfdcdkkgmkpaaProg
set_option maxRecDepth 100000
namespace Go.Proofs.Ytecfdcdkkgmkpaa
open Go.RowKit
theorem SA(l:List (Int×Vl))(x:Int×Vl):(l++[x]).flatMap fieldDats=l.flatMap fieldDats++(.cell (.int .i64 x.1)::vd x.2):=by rw[List.flatMap_append,<- BI];simp
theorem SN(l:List (Vl×Vl))(x:Vl×Vl):(l++[x]).flatMap pairDats=l.flatMap pairDats++(vd x.1++vd x.2):=by rw[List.flatMap_append,<- BS];simp
abbrev ofB(v:Vl):BL:=[(1,⟨27,bcs (vd v)⟩),(2,⟨40,zB⟩),(3,⟨40,[.is (.int .i64 v.kind),.is (.int .u64 (v.num:Int)),.is (.string (str v.text)),.own 100,.is (.string (str v.rest)),.own 101,.own 102]⟩)]
abbrev ofR(v:Vl)(f l p:Nat):RL:=[(100,⟨99,8,f,(v.fields.take f).flatMap fieldDats,false⟩),(101,⟨40,7,l,(v.list.take l).flatMap Vl.dats,false⟩),(102,⟨103,14,p,(v.pairs.take p).flatMap pairDats,false⟩)]
set_option maxHeartbeats 4000000 in
theorem UY(v:Vl)(hn:vnodes v<=1000000)(ih:∀ x∈rkids v,EF Try.prog [] 21 [.many (vd x)] (.part (.many (vd x)))):EF Try.prog [] 21 [.many (vd v)] (.part (.many (vd v))):=by
 have hlen:=SW v hn
 have ihf:∀ f∈v.fields,f.2∈rkids v:=fun f h=>by unfold rkids;exact List.mem_append_left _ (List.mem_append_right _ (List.mem_map.2 ⟨f,h,rfl⟩))
 have ihl:∀ f∈v.list,f∈rkids v:=fun f h=>by unfold rkids;exact List.mem_append_left _ (List.mem_append_left _ h)
 have ihp:∀ p∈v.pairs,p.1∈rkids v/\p.2∈rkids v:=fun p h=>by
  unfold rkids D9
  exact⟨List.mem_append_right _ (List.mem_flatMap.2 ⟨p,h,by simp⟩),List.mem_append_right _ (List.mem_flatMap.2 ⟨p,h,by simp⟩)⟩
 refine AH 74 Try.func21 rfl rfl rfl fun w D=>?_
 try refine A2 ?_
 refine AF ?_
 refine BX 1 rfl rfl rfl rfl (kn rfl) rfl rfl rfl rfl ?_
 refine AV 2 [.is (.int .i64 0),.is (.int .u64 0),.is (.string ⟨#[]⟩),.is (.slice none 0 0),.is (.string ⟨#[]⟩),.is (.slice none 0 0),.is (.slice none 0 0)] rfl rfl rfl rfl zr_40 (fun w D M V=>⟨rfl,fun j x v h1 h2=>AU _ h1 h2 rfl⟩) rfl rfl rfl rfl ?_
 refine AD ?_
 try refine A2 ?_
 refine AF ?_
 refine AG (A0 rfl (kn rfl) off_27_0) ?_
 refine AG (A5 rfl (kn rfl) rfl rfl one_3) ?_
 refine AG (A0 rfl (kn rfl) off_27_1) ?_
 refine AG (A5 rfl (kn rfl) rfl rfl one_22) ?_
 refine AG (A0 rfl (kn rfl) off_27_2) ?_
 refine AG (A5 rfl (kn rfl) rfl rfl one_9) ?_
 refine AG (A0 rfl (kn rfl) off_27_4) ?_
 refine AG (A5 rfl (kn rfl) rfl rfl one_9) ?_
 refine AG (BV (ds:=[_,_,_,_,_,_,_]) [(0,_),(1,_),(2,_),(4,_)] rfl ⟨rfl,(kn rfl),⟨rfl,(kn rfl),⟨rfl,(kn rfl),⟨rfl,(kn rfl),trivial⟩⟩⟩⟩ rfl pl_40 zr_40 (fun w D=>.cons (.cell _) (.cons (.cell _) (.cons (.cell _) (.cons (.cell _) (.cons (.cell _) (.cons (.cell _) (.cons (.cell _) (.nil _ _)))))))) rfl) ?_
 refine AV 3 [.is (.int .i64 0),.is (.int .u64 0),.is (.string ⟨#[]⟩),.is (.slice none 0 0),.is (.string ⟨#[]⟩),.is (.slice none 0 0),.is (.slice none 0 0)] rfl rfl rfl rfl zr_40 (fun w D M V=>⟨rfl,fun j x v h1 h2=>AU _ h1 h2 rfl⟩) rfl rfl rfl rfl ?_
 refine AP rfl rfl rfl (kn rfl) rfl (kn rfl) rfl rfl sz_40 ?_
 refine AD ?_
 try refine A2 ?_
 refine DT 3 3 100 99 8 rfl rfl rfl rfl rfl ?_
 refine DT 3 5 101 40 7 rfl rfl rfl rfl rfl ?_
 refine DT 3 6 102 103 14 rfl rfl rfl rfl rfl ?_
 refine A1 (A4 rfl rfl rfl (A0 rfl (kn rfl) off_27_3) (A4 rfl rfl rfl (A5 rfl (kn rfl) rfl rfl one_23) (A4 rfl rfl rfl (AT rfl (kn rfl) sle_23) (A9 rfl rfl rfl rfl rfl .nil)))) ?_
 try refine A2 ?_
 refine BB (ι:={ k:Nat // k<=v.fields.length })
  (fun k=>[(1,.box 1 0),(2,.box 2 0),(3,.box 3 0),(20,.part (.one (.row 8 v.fields.length (v.fields.flatMap fieldDats)))),(21,.is (.int .i64 (v.fields.length:Int))),(22,.is (.int .i64 (k.1:Int)))])
  (fun _=>ofB v) (fun k=>ofR v k.1 0 0) (fun k=>v.fields.length-k.1) ⟨0,by omega⟩
  (fun K=>AM ⟨s_t,s_t,s_t,s_t,s_t,s_t,trivial⟩ ⟨s_b,s_b,s_b,trivial⟩ ⟨rfl,rfl,rfl,trivial⟩) ?_
 rintro⟨k,hk⟩
 dsimp only at hk ⊢
 try refine A2 ?_
 refine A1 (A4 rfl rfl rfl (A6 rfl (kn rfl) (kn rfl) B7) .nil) ?_
 try refine A2 ?_
 refine AA rfl (fun h=>?_) (fun h=>?_)
 ·have hlt:k<v.fields.length:=by have:=of_decide_eq_true h;omega
  obtain⟨x,hx⟩:∃ x,v.fields[k]?=some x:=⟨_,List.getElem?_eq_getElem hlt⟩
  have htk:v.fields.take (k+1)=v.fields.take k++[x]:=by rw[List.take_add_one,hx];rfl
  try refine A2 ?_
  refine AF ?_
  refine AG (AL rfl (kn rfl) (kn rfl) (by omega) hx B9 sle_23 esz_23 (BI x)) ?_
  refine AG (AJ rfl (kn rfl) agg_97 sz_97) ?_
  refine AV 5 [.is (.int .i64 0),.is (.int .i64 0),.is (.int .u64 0),.is (.string ⟨#[]⟩),.is (.slice none 0 0),.is (.string ⟨#[]⟩),.is (.slice none 0 0),.is (.slice none 0 0)] rfl rfl rfl rfl zr_97 (fun w D M V=>⟨rfl,fun j x v h1 h2=>AU _ h1 h2 rfl⟩) rfl rfl rfl rfl ?_
  refine AP rfl rfl rfl (kn rfl) rfl (kn rfl) rfl rfl sz_97 ?_
  refine AD ?_
  try refine A2 ?_
  refine CF 9 C5 (by kernel_rfl) (A4 rfl rfl rfl (A0 rfl (kn rfl) off_40_3) (A4 rfl rfl rfl (A5 rfl (kn rfl) rfl rfl one_36) (A4 rfl rfl rfl (A0 rfl (kn rfl) off_97_0) (A4 rfl rfl rfl (A5 rfl (kn rfl) rfl rfl one_3) (A4 rfl rfl rfl (A0 rfl (kn rfl) off_97_1) (A4 rfl rfl rfl (A7 (ds:=[_,_,_,_,_,_,_]) 7 rfl (kn rfl) rfl rfl agg_27 sz_27 rfl) (A4 rfl rfl rfl (AE rfl (by kernel_rfl) (ih x.2 (ihf x (List.mem_of_getElem? hx))) ⟨(kn rfl),trivial⟩) (A4 rfl rfl rfl (BV (ds:=[_,_,_,_,_,_,_,_]) [(0,_),(1,_)] rfl ⟨rfl,(kn rfl),⟨rfl,(kn rfl),trivial⟩⟩ rfl pl_99 zr_99 (fun w D=>.cons (.cell _) (.cons (.cell _) (.cons (.cell _) (.cons (.cell _) (.cons (.cell _) (.cons (.cell _) (.cons (.cell _) (.cons (.cell _) (.nil _ _))))))))) rfl) (A4 rfl rfl rfl (B2 (ds:=[_,_,_,_,_,_,_,_]) [(0,_)] rfl ⟨rfl,(kn rfl),trivial⟩ rfl sl_36 sz_99 zr_99 (fun w D=>.cons (.cell _) (.cons (.cell _) (.cons (.cell _) (.cons (.cell _) (.cons (.cell _) (.cons (.cell _) (.cons (.cell _) (.cons (.cell _) (.nil _ _))))))))) rfl rfl rfl rfl rfl) .nil))))))))) ?_
  refine BP rfl rfl rfl rfl (kn rfl) rfl (kn rfl) sl_36 ap_36 rfl rfl (by first | omega | (dsimp only;omega)) (by first | omega | (dsimp only;omega)) ?_
  refine AG (A0 rfl (kn rfl) off_40_3) ?_
  refine D6 rfl rfl rfl (kn rfl) rfl (kn rfl) rfl rfl sz_36 rfl ?_
  refine AD ?_
  try refine A2 ?_
  refine A1 (A4 rfl rfl rfl (A6 rfl (kn rfl) (kn rfl) (AS (by first | omega | (dsimp only;omega)))) (A9 rfl rfl rfl rfl rfl .nil)) ?_
  try refine A2 ?_
  refine AR ⟨k+1,by omega⟩ (by dsimp only;omega) (fun K=>AM ⟨s_t,s_t,s_t,s_t,s_t,s_t,trivial⟩ ⟨s_b,s_b,s_b,trivial⟩ ⟨DK rfl rfl (by rw[htk,SA];rfl),rfl,rfl,trivial⟩)
 obtain rfl:k=v.fields.length:=by have:=of_decide_eq_false h;omega
 try refine A2 ?_
 refine A1 (A4 rfl rfl rfl (A0 rfl (kn rfl) off_27_5) (A4 rfl rfl rfl (A5 rfl (kn rfl) rfl rfl one_24) (A4 rfl rfl rfl (AT rfl (kn rfl) sle_24) (A9 rfl rfl rfl rfl rfl .nil)))) ?_
 try refine A2 ?_
 refine BB (ι:={ k:Nat // k<=v.list.length })
  (fun k=>[(1,.box 1 0),(2,.box 2 0),(3,.box 3 0),(39,.part (lP v.list)),(40,.is (.int .i64 (v.list.length:Int))),(41,.is (.int .i64 (k.1:Int)))])
  (fun _=>ofB v) (fun k=>ofR v v.fields.length k.1 0) (fun k=>v.list.length-k.1) ⟨0,by omega⟩
  (fun K=>AM ⟨s_t,s_t,s_t,s_t,s_t,s_t,trivial⟩ ⟨s_b,s_b,s_b,trivial⟩ ⟨rfl,rfl,rfl,trivial⟩) ?_
 rintro⟨k,hk⟩
 dsimp only at hk ⊢
 try refine A2 ?_
 refine A1 (A4 rfl rfl rfl (A6 rfl (kn rfl) (kn rfl) B7) .nil) ?_
 try refine A2 ?_
 refine AA rfl (fun h=>?_) (fun h=>?_)
 ·have hlt:k<v.list.length:=by have:=of_decide_eq_true h;omega
  obtain⟨x,hx⟩:∃ x,v.list[k]?=some x:=⟨_,List.getElem?_eq_getElem hlt⟩
  have htk:v.list.take (k+1)=v.list.take k++[x]:=by rw[List.take_add_one,hx];rfl
  try refine A2 ?_
  refine AF ?_
  refine AG (AL rfl (kn rfl) (kn rfl) (by omega) hx Vl.dats_len sle_24 esz_24 (DP x)) ?_
  refine AG (AJ rfl (kn rfl) agg_27 sz_27) ?_
  refine AV 7 [.is (.int .i64 0),.is (.int .u64 0),.is (.string ⟨#[]⟩),.is (.slice none 0 0),.is (.string ⟨#[]⟩),.is (.slice none 0 0),.is (.slice none 0 0)] rfl rfl rfl rfl zr_27 (fun w D M V=>⟨rfl,fun j x v h1 h2=>AU _ h1 h2 rfl⟩) rfl rfl rfl rfl ?_
  refine AP rfl rfl rfl (kn rfl) rfl (kn rfl) rfl rfl sz_27 ?_
  refine AD ?_
  try refine A2 ?_
  refine CF 5 C5 (by kernel_rfl) (A4 rfl rfl rfl (A0 rfl (kn rfl) off_40_5) (A4 rfl rfl rfl (A5 rfl (kn rfl) rfl rfl one_37) (A4 rfl rfl rfl (A7 (ds:=[_,_,_,_,_,_,_]) 7 rfl (kn rfl) rfl rfl agg_27 sz_27 rfl) (A4 rfl rfl rfl (AE rfl (by kernel_rfl) (ih x (ihl x (List.mem_of_getElem? hx))) ⟨(kn rfl),trivial⟩) (A4 rfl rfl rfl (B2 (ds:=[_,_,_,_,_,_,_]) [(0,_)] rfl ⟨rfl,(kn rfl),trivial⟩ rfl sl_37 sz_40 zr_40 (fun w D=>.cons (.cell _) (.cons (.cell _) (.cons (.cell _) (.cons (.cell _) (.cons (.cell _) (.cons (.cell _) (.cons (.cell _) (.nil _ _)))))))) rfl rfl rfl rfl rfl) .nil))))) ?_
  refine BP rfl rfl rfl rfl (kn rfl) rfl (kn rfl) sl_37 ap_37 rfl rfl (by first | omega | (dsimp only;omega)) (by first | omega | (dsimp only;omega)) ?_
  refine AG (A0 rfl (kn rfl) off_40_5) ?_
  refine D6 rfl rfl rfl (kn rfl) rfl (kn rfl) rfl rfl sz_37 rfl ?_
  refine AD ?_
  try refine A2 ?_
  refine A1 (A4 rfl rfl rfl (A6 rfl (kn rfl) (kn rfl) (AS (by first | omega | (dsimp only;omega)))) (A9 rfl rfl rfl rfl rfl .nil)) ?_
  try refine A2 ?_
  refine AR ⟨k+1,by omega⟩ (by dsimp only;omega) (fun K=>AM ⟨s_t,s_t,s_t,s_t,s_t,s_t,trivial⟩ ⟨s_b,s_b,s_b,trivial⟩ ⟨rfl,DK rfl rfl (by rw[htk,TW];rfl),rfl,trivial⟩)
 obtain rfl:k=v.list.length:=by have:=of_decide_eq_false h;omega
 try refine A2 ?_
 refine A1 (A4 rfl rfl rfl (A0 rfl (kn rfl) off_27_6) (A4 rfl rfl rfl (A5 rfl (kn rfl) rfl rfl one_25) (A4 rfl rfl rfl (AT rfl (kn rfl) sle_25) (A9 rfl rfl rfl rfl rfl .nil)))) ?_
 try refine A2 ?_
 refine BB (ι:={ k:Nat // k<=v.pairs.length })
  (fun k=>[(1,.box 1 0),(2,.box 2 0),(3,.box 3 0),(54,.part (.one (.row 14 v.pairs.length (v.pairs.flatMap pairDats)))),(55,.is (.int .i64 (v.pairs.length:Int))),(56,.is (.int .i64 (k.1:Int)))])
  (fun _=>ofB v) (fun k=>ofR v v.fields.length v.list.length k.1) (fun k=>v.pairs.length-k.1) ⟨0,by omega⟩
  (fun K=>AM ⟨s_t,s_t,s_t,s_t,s_t,s_t,trivial⟩ ⟨s_b,s_b,s_b,trivial⟩ ⟨rfl,rfl,rfl,trivial⟩) ?_
 rintro⟨k,hk⟩
 dsimp only at hk ⊢
 try refine A2 ?_
 refine A1 (A4 rfl rfl rfl (A6 rfl (kn rfl) (kn rfl) B7) .nil) ?_
 try refine A2 ?_
 refine AA rfl (fun h=>?_) (fun h=>?_)
 ·have hlt:k<v.pairs.length:=by have:=of_decide_eq_true h;omega
  obtain⟨x,hx⟩:∃ x,v.pairs[k]?=some x:=⟨_,List.getElem?_eq_getElem hlt⟩
  have htk:v.pairs.take (k+1)=v.pairs.take k++[x]:=by rw[List.take_add_one,hx];rfl
  try refine A2 ?_
  refine AF ?_
  refine AG (AL rfl (kn rfl) (kn rfl) (by omega) hx BO sle_25 esz_25 (BS x)) ?_
  refine AG (AJ rfl (kn rfl) agg_101 sz_101) ?_
  refine AV 9 [.is (.int .i64 0),.is (.int .u64 0),.is (.string ⟨#[]⟩),.is (.slice none 0 0),.is (.string ⟨#[]⟩),.is (.slice none 0 0),.is (.slice none 0 0),.is (.int .i64 0),.is (.int .u64 0),.is (.string ⟨#[]⟩),.is (.slice none 0 0),.is (.string ⟨#[]⟩),.is (.slice none 0 0),.is (.slice none 0 0)] rfl rfl rfl rfl zr_101 (fun w D M V=>⟨rfl,fun j x v h1 h2=>AU _ h1 h2 rfl⟩) rfl rfl rfl rfl ?_
  refine AP rfl rfl rfl (kn rfl) rfl (kn rfl) rfl rfl sz_101 ?_
  refine AD ?_
  try refine A2 ?_
  refine CF 10 C5 (by kernel_rfl) (A4 rfl rfl rfl (A0 rfl (kn rfl) off_40_6) (A4 rfl rfl rfl (A5 rfl (kn rfl) rfl rfl one_38) (A4 rfl rfl rfl (A0 rfl (kn rfl) off_101_0) (A4 rfl rfl rfl (A7 (ds:=[_,_,_,_,_,_,_]) 7 rfl (kn rfl) rfl rfl agg_27 sz_27 rfl) (A4 rfl rfl rfl (AE rfl (by kernel_rfl) (ih x.1 (ihp x (List.mem_of_getElem? hx)).1) ⟨(kn rfl),trivial⟩) (A4 rfl rfl rfl (A0 rfl (kn rfl) off_101_1) (A4 rfl rfl rfl (A7 (ds:=[_,_,_,_,_,_,_]) 7 rfl (kn rfl) rfl rfl agg_27 sz_27 rfl) (A4 rfl rfl rfl (AE rfl (by kernel_rfl) (ih x.2 (ihp x (List.mem_of_getElem? hx)).2) ⟨(kn rfl),trivial⟩) (A4 rfl rfl rfl (BV (ds:=[_,_,_,_,_,_,_,_,_,_,_,_,_,_]) [(0,_),(1,_)] rfl ⟨rfl,(kn rfl),⟨rfl,(kn rfl),trivial⟩⟩ rfl pl_103 zr_103 (fun w D=>.cons (.cell _) (.cons (.cell _) (.cons (.cell _) (.cons (.cell _) (.cons (.cell _) (.cons (.cell _) (.cons (.cell _) (.cons (.cell _) (.cons (.cell _) (.cons (.cell _) (.cons (.cell _) (.cons (.cell _) (.cons (.cell _) (.cons (.cell _) (.nil _ _))))))))))))))) rfl) (A4 rfl rfl rfl (B2 (ds:=[_,_,_,_,_,_,_,_,_,_,_,_,_,_]) [(0,_)] rfl ⟨rfl,(kn rfl),trivial⟩ rfl sl_38 sz_103 zr_103 (fun w D=>.cons (.cell _) (.cons (.cell _) (.cons (.cell _) (.cons (.cell _) (.cons (.cell _) (.cons (.cell _) (.cons (.cell _) (.cons (.cell _) (.cons (.cell _) (.cons (.cell _) (.cons (.cell _) (.cons (.cell _) (.cons (.cell _) (.cons (.cell _) (.nil _ _))))))))))))))) rfl rfl rfl rfl rfl) .nil)))))))))) ?_
  refine BP rfl rfl rfl rfl (kn rfl) rfl (kn rfl) sl_38 ap_38 rfl rfl (by first | omega | (dsimp only;omega)) (by first | omega | (dsimp only;omega)) ?_
  refine AG (A0 rfl (kn rfl) off_40_6) ?_
  refine D6 rfl rfl rfl (kn rfl) rfl (kn rfl) rfl rfl sz_38 rfl ?_
  refine AD ?_
  try refine A2 ?_
  refine A1 (A4 rfl rfl rfl (A6 rfl (kn rfl) (kn rfl) (AS (by first | omega | (dsimp only;omega)))) (A9 rfl rfl rfl rfl rfl .nil)) ?_
  try refine A2 ?_
  refine AR ⟨k+1,by omega⟩ (by dsimp only;omega) (fun K=>AM ⟨s_t,s_t,s_t,s_t,s_t,s_t,trivial⟩ ⟨s_b,s_b,s_b,trivial⟩ ⟨rfl,rfl,DK rfl rfl (by rw[htk,SN];rfl),trivial⟩)
 obtain rfl:k=v.pairs.length:=by have:=of_decide_eq_false h;omega
 try refine A2 ?_
 refine CI 3 3 100 rfl rfl rfl rfl rfl ?_
 refine CI 3 5 101 rfl rfl rfl rfl rfl ?_
 refine CI 3 6 102 rfl rfl rfl rfl rfl ?_
 dsimp only
 rw[List.take_length,List.take_length,List.take_length]
 refine AF ?_
 refine AG (A7 (ds:=[_,_,_,_,_,_,_]) 7 rfl (kn rfl) rfl rfl agg_40 sz_40 rfl) ?_
 refine AP rfl rfl rfl (kn rfl) rfl (kn rfl) rfl rfl sz_40 ?_
 refine AD ?_
 try refine A2 ?_
 exact A8 rfl rfl (.cell rfl rfl rfl agg_40 sz_40 rfl (.nil)) (Imp.of_eq rfl) rfl
theorem MY(v:Vl):vnodes v<=1000000->EF Try.prog [] 21 [.many (vd v)] (.part (.many (vd v))):=
 SV (P:=fun v=>vnodes v<=1000000->EF Try.prog [] 21 [.many (vd v)] (.part (.many (vd v)))) (fun v ih hn=>UY v hn fun x hx=>ih x hx (by have:=(MJ hx).2.2;omega)) v
theorem LT{P:Program}{t:TypeId}(d:Nat)(h:d<=1000):G8 P .sub t (.int .i64 ((d+1:Nat):Int)) (.int .i64 1) (.int .i64 (d:Int)):=by
 have:=E2 (P:=P) (t:=t) (m:=((d+1:Nat):Int)) (n:=1) (by omega)
 rwa [show((d+1:Nat):Int)-1=(d:Int) by omega]at this
theorem GZ{g:Vl->Int->Int}{l:Int}{x:Vl}(h:0<=l):C4 g l x=g x l:=if_pos h
theorem GH{g:Vl->Int->Int}{l:Int}{x:Vl}(h:¬ 0<=l):C4 g l x=l:=if_neg h
def O2(d:Nat):Prop:=∀ (v:Vl) (left:Int),v.Fine->0<=left->left<=1000000->EF Try.prog [] 86 [.many (vd v),iP left,iP (d:Int)] (.part (iP (BD d v left)))
theorem QG:O2 0:=by
 intro v left hv h0 h1
 refine AH 85 Try.func86 rfl rfl rfl fun w D=>?_
 try refine A2 ?_
 refine AF ?_
 refine BX 3 rfl rfl rfl rfl (kn rfl) rfl rfl rfl rfl ?_
 refine BY ?_
 refine AD ?_
 try refine A2 ?_
 refine A1 (A9 rfl rfl rfl rfl rfl (A4 rfl rfl rfl (A6 rfl (kn rfl) (kn rfl) AO) (A9 rfl rfl rfl rfl rfl (Walk.gd _ rfl rfl rfl (fun h=>A0 rfl (kn rfl) off_27_2) (Walk.gd _ rfl rfl rfl (fun h=>A5 rfl (A3 rfl h) rfl rfl one_9) (Walk.gd _ rfl rfl rfl (fun h=>GB rfl (A3 rfl h) str_9) (Walk.gd _ rfl rfl rfl (fun h=>A6 rfl (A3 rfl h) (kn rfl) D7) (A4 rfl rfl rfl (DI rfl (kn rfl) (fun hb=>A3 rfl hb)) (A9 rfl rfl rfl rfl rfl (Walk.gd _ rfl rfl rfl (fun h=>A0 rfl (kn rfl) off_27_4) (Walk.gd _ rfl rfl rfl (fun h=>A5 rfl (A3 rfl h) rfl rfl one_9) (Walk.gd _ rfl rfl rfl (fun h=>GB rfl (A3 rfl h) str_9) (Walk.gd _ rfl rfl rfl (fun h=>A6 rfl (A3 rfl h) (kn rfl) D7) (A4 rfl rfl rfl (DI rfl (kn rfl) (fun hb=>A3 rfl hb)) .nil)))))))))))))) ?_
 try refine A2 ?_
 refine AA rfl (fun h=>?_) (fun h=>?_)
 ·try refine A2 ?_
  refine A1 (AC rfl rfl rfl rfl rfl .nil) ?_
  try refine A2 ?_
  exact A8 rfl rfl (.tmp (kn rfl) (.nil)) (Imp.of_eq rfl) rfl
 ·simp at h
set_option maxHeartbeats 4000000 in
theorem QS(d:Nat)(hd:d<=1000)(ih:O2 d):O2 (d+1):=by
 intro v left hv h0 h1
 have hmax:maxLen<=9223372036854775807:=by decide
 obtain⟨a1,a2,a3,a4,a5,a6,a7,a8⟩:=hv.bounds
 have hgb:∀ (xs:List Vl) (l:Int),-1<=l -> -1<=xs.foldl (C4 (BD d)) l/\xs.foldl (C4 (BD d)) l<=l:=fun xs l h=>IF (BD d) (fun x l hl=>GX d x l hl) xs l h
 have e:¬ (400<v.text.length\/400<v.rest.length)->BD (d+1) v left=(D9 v.pairs).foldl (C4 (BD d)) (v.list.foldl (C4 (BD d)) ((v.fields.map (·.2)).foldl (C4 (BD d)) (left-1))):=fun h=>by
  rw[BD,if_neg h,gkids,List.foldl_append,List.foldl_append]
  rfl
 refine AH 85 Try.func86 rfl rfl rfl fun w D=>?_
 try refine A2 ?_
 refine AF ?_
 refine BX 3 rfl rfl rfl rfl (kn rfl) rfl rfl rfl rfl ?_
 refine BY ?_
 refine AD ?_
 try refine A2 ?_
 refine A1 (A9 rfl rfl rfl rfl rfl (A4 rfl rfl rfl (A6 rfl (kn rfl) (kn rfl) AO) (A9 rfl rfl rfl rfl rfl (Walk.gd _ rfl rfl rfl (fun h=>A0 rfl (kn rfl) off_27_2) (Walk.gd _ rfl rfl rfl (fun h=>A5 rfl (A3 rfl h) rfl rfl one_9) (Walk.gd _ rfl rfl rfl (fun h=>GB rfl (A3 rfl h) str_9) (Walk.gd _ rfl rfl rfl (fun h=>A6 rfl (A3 rfl h) (kn rfl) D7) (A4 rfl rfl rfl (DI rfl (kn rfl) (fun hb=>A3 rfl hb)) (A9 rfl rfl rfl rfl rfl (Walk.gd _ rfl rfl rfl (fun h=>A0 rfl (kn rfl) off_27_4) (Walk.gd _ rfl rfl rfl (fun h=>A5 rfl (A3 rfl h) rfl rfl one_9) (Walk.gd _ rfl rfl rfl (fun h=>GB rfl (A3 rfl h) str_9) (Walk.gd _ rfl rfl rfl (fun h=>A6 rfl (A3 rfl h) (kn rfl) D7) (A4 rfl rfl rfl (DI rfl (kn rfl) (fun hb=>A3 rfl hb)) .nil)))))))))))))) ?_
 try refine A2 ?_
 refine AA rfl (fun h=>?_) (fun h=>?_)
 ·have e2:BD (d+1) v left = -1:=by
   simp only[Bool.or_eq_true,decide_eq_true_eq]at h
   rw[BD]
   exact if_pos (by omega)
  try refine A2 ?_
  refine A1 (AC rfl rfl rfl rfl rfl .nil) ?_
  try refine A2 ?_
  exact A8 rfl rfl (.tmp (kn rfl) (.nil)) (Imp.of_eq (by rw[e2];rfl)) rfl
 have e2:=e (by
  simp only[Bool.or_eq_false_iff,decide_eq_false_iff_not]at h
  omega)
 clear e h
 try refine A2 ?_
 refine A1 (A9 rfl rfl rfl rfl rfl (A4 rfl rfl rfl (A6 rfl (kn rfl) (kn rfl) (E2 (by first | omega | (dsimp only;omega)))) (AC rfl rfl rfl rfl rfl .nil))) ?_
 try refine A2 ?_
 refine A1 (A4 rfl rfl rfl (A0 rfl (kn rfl) off_27_3) (A4 rfl rfl rfl (A5 rfl (kn rfl) rfl rfl one_23) (A4 rfl rfl rfl (AT rfl (kn rfl) sle_23) (A9 rfl rfl rfl rfl rfl .nil)))) ?_
 try refine A2 ?_
 refine BB (ι:={ k:Nat // k<=(v.fields).length })
  (fun k=>[(1,.is (.int .i64 ((fun k=>((v.fields.map (·.2)).take k).foldl (C4 (BD d)) (left-1)) k.1))),(2,.is (.int .i64 ((d+1:Nat):Int))),(3,.box 3 0),(30,.part (.one (.row 8 (v.fields).length ((v.fields).flatMap fieldDats)))),(31,.is (.int .i64 ((v.fields).length:Int))),(32,.is (.int .i64 (k.1:Int)))])
  (fun _=>[(3,⟨27,bcs (vd v)⟩)]) (fun _=>[]) (fun k=>(v.fields).length-k.1) ⟨0,by omega⟩
  (fun K=>AM ⟨s_t,s_t,s_t,s_t,s_t,s_t,trivial⟩ ⟨s_b,trivial⟩ trivial) ?_
 rintro⟨k,hk⟩
 dsimp only at hk ⊢
 try refine A2 ?_
 refine A1 (A4 rfl rfl rfl (A6 rfl (kn rfl) (kn rfl) B7) .nil) ?_
 try refine A2 ?_
 refine AA rfl (fun h=>?_) (fun h=>?_)
 ·have hlt:k<v.fields.length:=by have:=of_decide_eq_true h;omega
  obtain⟨x,hx⟩:∃ x,v.fields[k]?=some x:=⟨_,List.getElem?_eq_getElem hlt⟩
  have hft:((v.fields.map (·.2)).take (k+1)).foldl (C4 (BD d)) (left-1)=C4 (BD d) (((v.fields.map (·.2)).take k).foldl (C4 (BD d)) (left-1)) x.2:=MC (by rw[List.getElem?_map,hx];rfl)
  have hb:=hgb ((v.fields.map (·.2)).take k) (left-1) (by omega)
  generalize((v.fields.map (·.2)).take k).foldl (C4 (BD d)) (left-1)=M at hft hb ⊢
  try refine A2 ?_
  refine AF ?_
  refine AG (AL rfl (kn rfl) (kn rfl) (by omega) hx B9 sle_23 esz_23 (BI x)) ?_
  refine AG (AJ rfl (kn rfl) agg_97 sz_97) ?_
  refine AV 8 [.is (.int .i64 0),.is (.int .i64 0),.is (.int .u64 0),.is (.string ⟨#[]⟩),.is (.slice none 0 0),.is (.string ⟨#[]⟩),.is (.slice none 0 0),.is (.slice none 0 0)] rfl rfl rfl rfl zr_97 (fun w D M V=>⟨rfl,fun j x v h1 h2=>AU _ h1 h2 rfl⟩) rfl rfl rfl rfl ?_
  refine AP rfl rfl rfl (kn rfl) rfl (kn rfl) rfl rfl sz_97 ?_
  refine AD ?_
  try refine A2 ?_
  refine A1 (A9 rfl rfl rfl rfl rfl (A4 rfl rfl rfl (A6 rfl (kn rfl) (kn rfl) DM) .nil)) ?_
  try refine A2 ?_
  refine AA rfl (fun h2=>?_) (fun h2=>?_)
  ·have hM:=of_decide_eq_true h2
   rw[GZ hM]at hft
   try refine A2 ?_
   refine A1 (A4 rfl rfl rfl (A0 rfl (kn rfl) off_97_1) (A4 rfl rfl rfl (A7 (ds:=[_,_,_,_,_,_,_]) 7 rfl (kn rfl) rfl rfl agg_27 sz_27 rfl) (A9 rfl rfl rfl rfl rfl (A9 rfl rfl rfl rfl rfl (A4 rfl rfl rfl (A6 rfl (kn rfl) (kn rfl) (LT d hd)) (A4 rfl rfl rfl (AE rfl (by kernel_rfl) (ih x.2 M (hv.field (List.mem_of_getElem? hx)).2 hM (by omega)) ⟨(kn rfl),⟨(kn rfl),⟨(kn rfl),trivial⟩⟩⟩) (AC rfl rfl rfl rfl rfl .nil))))))) ?_
   try refine A2 ?_
   try refine A2 ?_
   refine A1 (A4 rfl rfl rfl (A6 rfl (kn rfl) (kn rfl) (AS (by first | omega | (dsimp only;omega)))) (A9 rfl rfl rfl rfl rfl .nil)) ?_
   try refine A2 ?_
   refine AR ⟨k+1,by omega⟩ (by dsimp only;omega) (fun K=>AM ⟨⟨_,rfl,Imp.of_eq (by rw[hft])⟩,s_t,s_t,s_t,s_t,s_t,trivial⟩ ⟨s_b,trivial⟩ trivial)
  ·rw[GH (of_decide_eq_false h2)]at hft
   try refine A2 ?_
   refine A1 (A4 rfl rfl rfl (A6 rfl (kn rfl) (kn rfl) (AS (by first | omega | (dsimp only;omega)))) (A9 rfl rfl rfl rfl rfl .nil)) ?_
   try refine A2 ?_
   refine AR ⟨k+1,by omega⟩ (by dsimp only;omega) (fun K=>AM ⟨⟨_,rfl,Imp.of_eq (by rw[hft])⟩,s_t,s_t,s_t,s_t,s_t,trivial⟩ ⟨s_b,trivial⟩ trivial)
 obtain rfl:k=v.fields.length:=by have:=of_decide_eq_false h;omega
 rw[List.take_of_length_le (by simp)]
 have hb1:=hgb (v.fields.map (·.2)) (left-1) (by omega)
 generalize(v.fields.map (·.2)).foldl (C4 (BD d)) (left-1)=L1 at hb1 e2 ⊢
 try refine A2 ?_
 refine A1 (A4 rfl rfl rfl (A0 rfl (kn rfl) off_27_5) (A4 rfl rfl rfl (A5 rfl (kn rfl) rfl rfl one_24) (A4 rfl rfl rfl (AT rfl (kn rfl) sle_24) (A9 rfl rfl rfl rfl rfl .nil)))) ?_
 try refine A2 ?_
 refine BB (ι:={ k:Nat // k<=(v.list).length })
  (fun k=>[(1,.is (.int .i64 ((fun k=>(v.list.take k).foldl (C4 (BD d)) L1) k.1))),(2,.is (.int .i64 ((d+1:Nat):Int))),(3,.box 3 0),(46,.part (.one (.row 7 (v.list).length ((v.list).flatMap Vl.dats)))),(47,.is (.int .i64 ((v.list).length:Int))),(48,.is (.int .i64 (k.1:Int)))])
  (fun _=>[(3,⟨27,bcs (vd v)⟩)]) (fun _=>[]) (fun k=>(v.list).length-k.1) ⟨0,by omega⟩
  (fun K=>AM ⟨s_t,s_t,s_t,s_t,s_t,s_t,trivial⟩ ⟨s_b,trivial⟩ trivial) ?_
 rintro⟨k,hk⟩
 dsimp only at hk ⊢
 try refine A2 ?_
 refine A1 (A4 rfl rfl rfl (A6 rfl (kn rfl) (kn rfl) B7) .nil) ?_
 try refine A2 ?_
 refine AA rfl (fun h=>?_) (fun h=>?_)
 ·have hlt:k<v.list.length:=by have:=of_decide_eq_true h;omega
  obtain⟨x,hx⟩:∃ x,v.list[k]?=some x:=⟨_,List.getElem?_eq_getElem hlt⟩
  have hft:(v.list.take (k+1)).foldl (C4 (BD d)) L1=C4 (BD d) ((v.list.take k).foldl (C4 (BD d)) L1) x:=MC hx
  have hb:=hgb (v.list.take k) L1 (by omega)
  generalize(v.list.take k).foldl (C4 (BD d)) L1=M at hft hb ⊢
  try refine A2 ?_
  refine AF ?_
  refine AG (AL rfl (kn rfl) (kn rfl) (by omega) hx Vl.dats_len sle_24 esz_24 (DP x)) ?_
  refine AG (AJ rfl (kn rfl) agg_27 sz_27) ?_
  refine AV 10 [.is (.int .i64 0),.is (.int .u64 0),.is (.string ⟨#[]⟩),.is (.slice none 0 0),.is (.string ⟨#[]⟩),.is (.slice none 0 0),.is (.slice none 0 0)] rfl rfl rfl rfl zr_27 (fun w D M V=>⟨rfl,fun j x v h1 h2=>AU _ h1 h2 rfl⟩) rfl rfl rfl rfl ?_
  refine AP rfl rfl rfl (kn rfl) rfl (kn rfl) rfl rfl sz_27 ?_
  refine AD ?_
  try refine A2 ?_
  refine A1 (A9 rfl rfl rfl rfl rfl (A4 rfl rfl rfl (A6 rfl (kn rfl) (kn rfl) DM) .nil)) ?_
  try refine A2 ?_
  refine AA rfl (fun h2=>?_) (fun h2=>?_)
  ·have hM:=of_decide_eq_true h2
   rw[GZ hM]at hft
   try refine A2 ?_
   refine A1 (A4 rfl rfl rfl (A7 (ds:=[_,_,_,_,_,_,_]) 7 rfl (kn rfl) rfl rfl agg_27 sz_27 rfl) (A9 rfl rfl rfl rfl rfl (A9 rfl rfl rfl rfl rfl (A4 rfl rfl rfl (A6 rfl (kn rfl) (kn rfl) (LT d hd)) (A4 rfl rfl rfl (AE rfl (by kernel_rfl) (ih x M (hv.elem (List.mem_of_getElem? hx)) hM (by omega)) ⟨(kn rfl),⟨(kn rfl),⟨(kn rfl),trivial⟩⟩⟩) (AC rfl rfl rfl rfl rfl .nil)))))) ?_
   try refine A2 ?_
   try refine A2 ?_
   refine A1 (A4 rfl rfl rfl (A6 rfl (kn rfl) (kn rfl) (AS (by first | omega | (dsimp only;omega)))) (A9 rfl rfl rfl rfl rfl .nil)) ?_
   try refine A2 ?_
   refine AR ⟨k+1,by omega⟩ (by dsimp only;omega) (fun K=>AM ⟨⟨_,rfl,Imp.of_eq (by rw[hft])⟩,s_t,s_t,s_t,s_t,s_t,trivial⟩ ⟨s_b,trivial⟩ trivial)
  ·rw[GH (of_decide_eq_false h2)]at hft
   try refine A2 ?_
   refine A1 (A4 rfl rfl rfl (A6 rfl (kn rfl) (kn rfl) (AS (by first | omega | (dsimp only;omega)))) (A9 rfl rfl rfl rfl rfl .nil)) ?_
   try refine A2 ?_
   refine AR ⟨k+1,by omega⟩ (by dsimp only;omega) (fun K=>AM ⟨⟨_,rfl,Imp.of_eq (by rw[hft])⟩,s_t,s_t,s_t,s_t,s_t,trivial⟩ ⟨s_b,trivial⟩ trivial)
 obtain rfl:k=v.list.length:=by have:=of_decide_eq_false h;omega
 rw[List.take_length]
 have hb2:=hgb v.list L1 (by omega)
 generalize v.list.foldl (C4 (BD d)) L1=L2 at hb2 e2 ⊢
 try refine A2 ?_
 refine A1 (A4 rfl rfl rfl (A0 rfl (kn rfl) off_27_6) (A4 rfl rfl rfl (A5 rfl (kn rfl) rfl rfl one_25) (A4 rfl rfl rfl (AT rfl (kn rfl) sle_25) (A9 rfl rfl rfl rfl rfl .nil)))) ?_
 try refine A2 ?_
 refine BB (ι:={ k:Nat // k<=(v.pairs).length })
  (fun k=>[(1,.is (.int .i64 ((fun k=>(D9 (v.pairs.take k)).foldl (C4 (BD d)) L2) k.1))),(2,.is (.int .i64 ((d+1:Nat):Int))),(3,.box 3 0),(61,.part (.one (.row 14 (v.pairs).length ((v.pairs).flatMap pairDats)))),(62,.is (.int .i64 ((v.pairs).length:Int))),(63,.is (.int .i64 (k.1:Int)))])
  (fun _=>[(3,⟨27,bcs (vd v)⟩)]) (fun _=>[]) (fun k=>(v.pairs).length-k.1) ⟨0,by omega⟩
  (fun K=>AM ⟨s_t,s_t,s_t,s_t,s_t,s_t,trivial⟩ ⟨s_b,trivial⟩ trivial) ?_
 rintro⟨k,hk⟩
 dsimp only at hk ⊢
 try refine A2 ?_
 refine A1 (A4 rfl rfl rfl (A6 rfl (kn rfl) (kn rfl) B7) .nil) ?_
 try refine A2 ?_
 refine AA rfl (fun h=>?_) (fun h=>?_)
 ·have hlt:k<v.pairs.length:=by have:=of_decide_eq_true h;omega
  obtain⟨x,hx⟩:∃ x,v.pairs[k]?=some x:=⟨_,List.getElem?_eq_getElem hlt⟩
  have hft:=PT (g:=C4 (BD d)) (l:=L2) hx
  have hb:=hgb (D9 (v.pairs.take k)) L2 (by omega)
  generalize(D9 (v.pairs.take k)).foldl (C4 (BD d)) L2=M at hft hb ⊢
  try refine A2 ?_
  refine AF ?_
  refine AG (AL rfl (kn rfl) (kn rfl) (by omega) hx BO sle_25 esz_25 (BS x)) ?_
  refine AG (AJ rfl (kn rfl) agg_101 sz_101) ?_
  refine AV 12 [.is (.int .i64 0),.is (.int .u64 0),.is (.string ⟨#[]⟩),.is (.slice none 0 0),.is (.string ⟨#[]⟩),.is (.slice none 0 0),.is (.slice none 0 0),.is (.int .i64 0),.is (.int .u64 0),.is (.string ⟨#[]⟩),.is (.slice none 0 0),.is (.string ⟨#[]⟩),.is (.slice none 0 0),.is (.slice none 0 0)] rfl rfl rfl rfl zr_101 (fun w D M V=>⟨rfl,fun j x v h1 h2=>AU _ h1 h2 rfl⟩) rfl rfl rfl rfl ?_
  refine AP rfl rfl rfl (kn rfl) rfl (kn rfl) rfl rfl sz_101 ?_
  refine AD ?_
  try refine A2 ?_
  refine A1 (A9 rfl rfl rfl rfl rfl (A4 rfl rfl rfl (A6 rfl (kn rfl) (kn rfl) DM) .nil)) ?_
  try refine A2 ?_
  refine AA rfl (fun h2=>?_) (fun h2=>?_)
  ·have hM:=of_decide_eq_true h2
   rw[GZ hM]at hft
   have hbd:=GX d x.1 M hM
   try refine A2 ?_
   refine A1 (A4 rfl rfl rfl (A0 rfl (kn rfl) off_101_0) (A4 rfl rfl rfl (A7 (ds:=[_,_,_,_,_,_,_]) 7 rfl (kn rfl) rfl rfl agg_27 sz_27 rfl) (A9 rfl rfl rfl rfl rfl (A9 rfl rfl rfl rfl rfl (A4 rfl rfl rfl (A6 rfl (kn rfl) (kn rfl) (LT d hd)) (A4 rfl rfl rfl (AE rfl (by kernel_rfl) (ih x.1 M (hv.pair (List.mem_of_getElem? hx)).1 hM (by omega)) ⟨(kn rfl),⟨(kn rfl),⟨(kn rfl),trivial⟩⟩⟩) (AC rfl rfl rfl rfl rfl .nil))))))) ?_
   try refine A2 ?_
   try refine A2 ?_
   refine A1 (A9 rfl rfl rfl rfl rfl (A4 rfl rfl rfl (A6 rfl (kn rfl) (kn rfl) DM) .nil)) ?_
   try refine A2 ?_
   refine AA rfl (fun h3=>?_) (fun h3=>?_)
   ·have hM2:=of_decide_eq_true h3
    rw[GZ hM2]at hft
    try refine A2 ?_
    refine A1 (A4 rfl rfl rfl (A0 rfl (kn rfl) off_101_1) (A4 rfl rfl rfl (A7 (ds:=[_,_,_,_,_,_,_]) 7 rfl (kn rfl) rfl rfl agg_27 sz_27 rfl) (A9 rfl rfl rfl rfl rfl (A9 rfl rfl rfl rfl rfl (A4 rfl rfl rfl (A6 rfl (kn rfl) (kn rfl) (LT d hd)) (A4 rfl rfl rfl (AE rfl (by kernel_rfl) (ih x.2 (BD d x.1 M) (hv.pair (List.mem_of_getElem? hx)).2 hM2 (by omega)) ⟨(kn rfl),⟨(kn rfl),⟨(kn rfl),trivial⟩⟩⟩) (AC rfl rfl rfl rfl rfl .nil))))))) ?_
    try refine A2 ?_
    try refine A2 ?_
    refine A1 (A4 rfl rfl rfl (A6 rfl (kn rfl) (kn rfl) (AS (by first | omega | (dsimp only;omega)))) (A9 rfl rfl rfl rfl rfl .nil)) ?_
    try refine A2 ?_
    refine AR ⟨k+1,by omega⟩ (by dsimp only;omega) (fun K=>AM ⟨⟨_,rfl,Imp.of_eq (by rw[hft])⟩,s_t,s_t,s_t,s_t,s_t,trivial⟩ ⟨s_b,trivial⟩ trivial)
   ·rw[GH (of_decide_eq_false h3)]at hft
    try refine A2 ?_
    refine A1 (A4 rfl rfl rfl (A6 rfl (kn rfl) (kn rfl) (AS (by first | omega | (dsimp only;omega)))) (A9 rfl rfl rfl rfl rfl .nil)) ?_
    try refine A2 ?_
    refine AR ⟨k+1,by omega⟩ (by dsimp only;omega) (fun K=>AM ⟨⟨_,rfl,Imp.of_eq (by rw[hft])⟩,s_t,s_t,s_t,s_t,s_t,trivial⟩ ⟨s_b,trivial⟩ trivial)
  ·rw[GH (of_decide_eq_false h2),GH (of_decide_eq_false h2)]at hft
   try refine A2 ?_
   refine A1 (A9 rfl rfl rfl rfl rfl (A4 rfl rfl rfl (A6 rfl (kn rfl) (kn rfl) DM) .nil)) ?_
   try refine A2 ?_
   refine AA rfl (fun h3=>?_) (fun h3=>?_)
   ·exact absurd (of_decide_eq_true h3) (of_decide_eq_false h2)
   try refine A2 ?_
   refine A1 (A4 rfl rfl rfl (A6 rfl (kn rfl) (kn rfl) (AS (by first | omega | (dsimp only;omega)))) (A9 rfl rfl rfl rfl rfl .nil)) ?_
   try refine A2 ?_
   refine AR ⟨k+1,by omega⟩ (by dsimp only;omega) (fun K=>AM ⟨⟨_,rfl,Imp.of_eq (by rw[hft])⟩,s_t,s_t,s_t,s_t,s_t,trivial⟩ ⟨s_b,trivial⟩ trivial)
 obtain rfl:k=v.pairs.length:=by have:=of_decide_eq_false h;omega
 rw[List.take_length]
 try refine A2 ?_
 refine A1 (A9 rfl rfl rfl rfl rfl (AC rfl rfl rfl rfl rfl .nil)) ?_
 try refine A2 ?_
 exact A8 rfl rfl (.tmp (kn rfl) (.nil)) (Imp.of_eq (by rw[e2];rfl)) rfl
theorem ON:∀ d:Nat,d<=1000->O2 d
 | 0,_=>QG
 | d+1,h=>QS d (by omega) (ON d (by omega))
def QO(v:Vl)(most:Int):Bool:=decide (BD 30 v most<0)
theorem JK(v:Vl)(most:Int)(hv:v.Fine)(h0:0<=most)(h1:most<=1000000):EF Try.prog [] 33 [.many (vd v),iP most] (.part (tP (QO v most))):=by
 refine AH 9 Try.func33 rfl rfl rfl fun w D=>?_
 try refine A2 ?_
 refine AF ?_
 refine BX 2 rfl rfl rfl rfl (kn rfl) rfl rfl rfl rfl ?_
 refine BY ?_
 refine AD ?_
 try refine A2 ?_
 refine A1 (A4 rfl rfl rfl (A7 (ds:=[_,_,_,_,_,_,_]) 7 rfl (kn rfl) rfl rfl agg_27 sz_27 rfl) (A9 rfl rfl rfl rfl rfl (A4 rfl rfl rfl (AE rfl (by kernel_rfl) (ON 30 (by omega) v most hv h0 h1) ⟨(kn rfl),⟨(kn rfl),⟨(kn rfl),trivial⟩⟩⟩) (A4 rfl rfl rfl (A6 rfl (kn rfl) (kn rfl) B7) (AC rfl rfl rfl rfl rfl .nil))))) ?_
 try refine A2 ?_
 exact A8 rfl rfl (.tmp (kn rfl) (.nil)) (Imp.of_eq rfl) rfl
theorem VN{v:Vl}{most:Int}(h0:0<=most)(h:QO v most=false):(vnodes v:Int)<=most/\v.Tx:=by
 have h1:=of_decide_eq_false h
 have h2:=MR 30 v most h0 (by omega)
 exact⟨by omega,h2.2.tx⟩
end Go.Proofs.Ytecfdcdkkgmkpaa
