/- Part 28. Conditions: as each theorem says. -/
import Derived.Test.YtecfdcdkkgmkpaaIO27
import Derived.Test.YtecfdcdkkgmkpaaProg
set_option maxRecDepth 100000
namespace Go.Proofs.Ytecfdcdkkgmkpaa
open Go.RowKit
def TM(e:Ed):Prop:=EF Try.prog [] 10 [.many (ed e)] (.part (.many (ed (BT e))))
abbrev rvB(e:Ed):BL:=[(1,⟨45,bcs (ed e)⟩),(2,⟨45,.is (.int .i64 0)::(zB++(zB++[.is (.slice none 0 0),.is (.bool false),.is (.string ⟨#[]⟩),.is (.string ⟨#[]⟩),.is (.slice none 0 0),.is (.slice none 0 0)]))⟩),
 (3,⟨45,.is (.int .i64 e.kind)::(bcs (vd e.new)++(bcs (vd e.old)++[.own 100,.is (.bool e.rests),.is (.string (str e.rn)),.is (.string (str e.ro)),.is (.slice none 0 0),.own 101]))⟩)]
abbrev rvR(e:Ed)(f k:Nat):RL:=[(100,⟨63,22,f,((e.fields.take f).map FE).flatMap D3,false⟩),(101,⟨67,28,k,((e.keys.take k).map G9).flatMap D4,false⟩)]
theorem VA{s:Stp}(h:C2 s=true):[(0:Int),1,3,2,4][s.1.1.toNat]?=some (D2 s.1.1):=by
 have hc:s.1.1=1\/s.1.1=2\/s.1.1=3\/s.1.1=4:=by
  have:=(C9 h).2
  omega
 rcases hc with hc | hc | hc | hc<;>rw[hc]<;>rfl
theorem UV{s:Stp}(h:C2 s=true):0<=s.1.1:=by
 have:=(C9 h).2
 omega
theorem FB{α:Type}{g:α->α}{l:List α}{k:Nat}{x:α}(hx:l[k]?=some x):(l.take (k+1)).map g=(l.take k).map g++[g x]:=by
 rw[List.take_add_one,hx]
 simp
set_option maxHeartbeats 4000000 in
theorem S1(e:Ed)(hs:e.Sm)(hr:B3 e=true)(ih:∀ x∈e.kids,TM x):TM e:=by
 unfold TM
 have hl:=hs.lens
 obtain⟨r1,r2,r3⟩:=EY hr
 have hk:=E0 hr
 have hin:∀ s∈e.steps,B3 (BT s.2)=true:=fun s h=>EQ _ (hk _ (Ed.kid_s h))
 have ht:=UI (e.steps.map BQ) (by rw[List.length_map];omega) (fun s hs=>by
  obtain⟨u,hu,rfl⟩:=List.mem_map.1 hs
  exact HZ (DO r2 u hu) (hin u hu)) (MP r2)
 refine AH 91 Try.func10 rfl rfl rfl fun w D=>?_
 try refine A2 ?_
 refine AF ?_
 refine BX 1 rfl rfl rfl rfl (kn rfl) rfl rfl rfl rfl ?_
 refine AV 2 [.is (.int .i64 0),.is (.int .i64 0),.is (.int .u64 0),.is (.string ⟨#[]⟩),.is (.slice none 0 0),.is (.string ⟨#[]⟩),.is (.slice none 0 0),.is (.slice none 0 0),.is (.int .i64 0),.is (.int .u64 0),.is (.string ⟨#[]⟩),.is (.slice none 0 0),.is (.string ⟨#[]⟩),.is (.slice none 0 0),.is (.slice none 0 0),.is (.slice none 0 0),.is (.bool false),.is (.string ⟨#[]⟩),.is (.string ⟨#[]⟩),.is (.slice none 0 0),.is (.slice none 0 0)] rfl rfl rfl rfl zr_45 (fun w D M V=>⟨rfl,fun j x v h1 h2=>AU _ h1 h2 rfl⟩) rfl rfl rfl rfl ?_
 refine AD ?_
 try refine A2 ?_
 refine AF ?_
 refine AG (A0 rfl (kn rfl) off_45_0) ?_
 refine AG (A5 rfl (kn rfl) rfl rfl one_3) ?_
 refine AG (A0 rfl (kn rfl) off_45_2) ?_
 refine AG (A7 (ds:=[_,_,_,_,_,_,_]) 7 rfl (kn rfl) rfl rfl agg_40 sz_40 rfl) ?_
 refine AG (A0 rfl (kn rfl) off_45_1) ?_
 refine AG (A7 (ds:=[_,_,_,_,_,_,_]) 7 rfl (kn rfl) rfl rfl agg_40 sz_40 rfl) ?_
 refine AG (A0 rfl (kn rfl) off_45_4) ?_
 refine AG (A5 rfl (kn rfl) rfl rfl one_4) ?_
 refine AG (A0 rfl (kn rfl) off_45_6) ?_
 refine AG (A5 rfl (kn rfl) rfl rfl one_9) ?_
 refine AG (A0 rfl (kn rfl) off_45_5) ?_
 refine AG (A5 rfl (kn rfl) rfl rfl one_9) ?_
 refine AG (BV (ds:=[_,_,_,_,_,_,_,_,_,_,_,_,_,_,_,_,_,_,_,_,_]) [(0,_),(1,_),(2,_),(4,_),(5,_),(6,_)] rfl ⟨rfl,(kn rfl),⟨rfl,(kn rfl),⟨rfl,(kn rfl),⟨rfl,(kn rfl),⟨rfl,(kn rfl),⟨rfl,(kn rfl),trivial⟩⟩⟩⟩⟩⟩ rfl pl_45 zr_45 (fun w D=>.cons (.cell _) (.cons (.cell _) (.cons (.cell _) (.cons (.cell _) (.cons (.cell _) (.cons (.cell _) (.cons (.cell _) (.cons (.cell _) (.cons (.cell _) (.cons (.cell _) (.cons (.cell _) (.cons (.cell _) (.cons (.cell _) (.cons (.cell _) (.cons (.cell _) (.cons (.cell _) (.cons (.cell _) (.cons (.cell _) (.cons (.cell _) (.cons (.cell _) (.cons (.cell _) (.nil _ _)))))))))))))))))))))) rfl) ?_
 refine AV 3 [.is (.int .i64 0),.is (.int .i64 0),.is (.int .u64 0),.is (.string ⟨#[]⟩),.is (.slice none 0 0),.is (.string ⟨#[]⟩),.is (.slice none 0 0),.is (.slice none 0 0),.is (.int .i64 0),.is (.int .u64 0),.is (.string ⟨#[]⟩),.is (.slice none 0 0),.is (.string ⟨#[]⟩),.is (.slice none 0 0),.is (.slice none 0 0),.is (.slice none 0 0),.is (.bool false),.is (.string ⟨#[]⟩),.is (.string ⟨#[]⟩),.is (.slice none 0 0),.is (.slice none 0 0)] rfl rfl rfl rfl zr_45 (fun w D M V=>⟨rfl,fun j x v h1 h2=>AU _ h1 h2 rfl⟩) rfl rfl rfl rfl ?_
 refine AP rfl rfl rfl (kn rfl) rfl (kn rfl) rfl rfl sz_45 ?_
 refine AD ?_
 try refine A2 ?_
 refine DT 3 15 100 63 22 rfl rfl rfl rfl rfl ?_
 refine DT 3 20 101 67 28 rfl rfl rfl rfl rfl ?_
 refine A1 (A4 rfl rfl rfl (A0 rfl (kn rfl) off_45_3) (A4 rfl rfl rfl (A5 rfl (kn rfl) rfl rfl one_41) (A4 rfl rfl rfl (AT rfl (kn rfl) sle_41) (A9 rfl rfl rfl rfl rfl .nil)))) ?_
 try refine A2 ?_
 refine BB (ι:={ k:Nat // k<=e.fields.length })
  (fun k=>[(1,.box 1 0),(2,.box 2 0),(3,.box 3 0),(25,.part (.one (.row 22 e.fields.length (e.fields.flatMap D3)))),(26,.is (.int .i64 (e.fields.length:Int))),(27,.is (.int .i64 (k.1:Int)))])
  (fun _=>rvB e) (fun k=>rvR e k.1 0) (fun k=>e.fields.length-k.1) ⟨0,by omega⟩
  (fun K=>AM ⟨s_t,s_t,s_t,s_t,s_t,s_t,trivial⟩ ⟨s_b,s_b,s_b,trivial⟩ ⟨rfl,rfl,trivial⟩) ?_
 rintro⟨k,hk0⟩
 dsimp only at hk0 ⊢
 try refine A2 ?_
 refine A1 (A4 rfl rfl rfl (A6 rfl (kn rfl) (kn rfl) B7) .nil) ?_
 try refine A2 ?_
 refine AA rfl (fun h=>?_) (fun h=>?_)
 ·have hlt:k<e.fields.length:=by have:=of_decide_eq_true h;omega
  obtain⟨x,hx⟩:∃ x,e.fields[k]?=some x:=⟨_,List.getElem?_eq_getElem hlt⟩
  have htk:=FB (g:=FE) hx
  try refine A2 ?_
  refine AF ?_
  refine AG (AL rfl (kn rfl) (kn rfl) (by omega) hx CO sle_41 esz_41 (CD x)) ?_
  refine AG (AJ rfl (kn rfl) agg_63 sz_63) ?_
  refine AV 5 [.is (.int .i64 0),.is (.int .i64 0),.is (.int .i64 0),.is (.int .u64 0),.is (.string ⟨#[]⟩),.is (.slice none 0 0),.is (.string ⟨#[]⟩),.is (.slice none 0 0),.is (.slice none 0 0),.is (.int .i64 0),.is (.int .u64 0),.is (.string ⟨#[]⟩),.is (.slice none 0 0),.is (.string ⟨#[]⟩),.is (.slice none 0 0),.is (.slice none 0 0),.is (.slice none 0 0),.is (.bool false),.is (.string ⟨#[]⟩),.is (.string ⟨#[]⟩),.is (.slice none 0 0),.is (.slice none 0 0)] rfl rfl rfl rfl zr_63 (fun w D M V=>⟨rfl,fun j x v h1 h2=>AU _ h1 h2 rfl⟩) rfl rfl rfl rfl ?_
  refine AP rfl rfl rfl (kn rfl) rfl (kn rfl) rfl rfl sz_63 ?_
  refine AD ?_
  try refine A2 ?_
  refine CF 9 C5 (by kernel_rfl) (A4 rfl rfl rfl (A0 rfl (kn rfl) off_45_3) (A4 rfl rfl rfl (A5 rfl (kn rfl) rfl rfl one_41) (A4 rfl rfl rfl (A0 rfl (kn rfl) off_63_0) (A4 rfl rfl rfl (A5 rfl (kn rfl) rfl rfl one_3) (A4 rfl rfl rfl (A0 rfl (kn rfl) off_63_1) (A4 rfl rfl rfl (A7 (ds:=[_,_,_,_,_,_,_,_,_,_,_,_,_,_,_,_,_,_,_,_,_]) 21 rfl (kn rfl) rfl rfl agg_45 sz_45 rfl) (A4 rfl rfl rfl (AE rfl (by kernel_rfl) (ih x.2 (Ed.kid_f (List.mem_of_getElem? hx))) ⟨(kn rfl),trivial⟩) (A4 rfl rfl rfl (BV (ds:=[_,_,_,_,_,_,_,_,_,_,_,_,_,_,_,_,_,_,_,_,_,_]) [(0,_),(1,_)] rfl ⟨rfl,(kn rfl),⟨rfl,(kn rfl),trivial⟩⟩ rfl pl_63 zr_63 (fun w D=>.cons (.cell _) (.cons (.cell _) (.cons (.cell _) (.cons (.cell _) (.cons (.cell _) (.cons (.cell _) (.cons (.cell _) (.cons (.cell _) (.cons (.cell _) (.cons (.cell _) (.cons (.cell _) (.cons (.cell _) (.cons (.cell _) (.cons (.cell _) (.cons (.cell _) (.cons (.cell _) (.cons (.cell _) (.cons (.cell _) (.cons (.cell _) (.cons (.cell _) (.cons (.cell _) (.cons (.cell _) (.nil _ _))))))))))))))))))))))) rfl) (A4 rfl rfl rfl (B2 (ds:=[_,_,_,_,_,_,_,_,_,_,_,_,_,_,_,_,_,_,_,_,_,_]) [(0,_)] rfl ⟨rfl,(kn rfl),trivial⟩ rfl sl_41 sz_63 zr_63 (fun w D=>.cons (.cell _) (.cons (.cell _) (.cons (.cell _) (.cons (.cell _) (.cons (.cell _) (.cons (.cell _) (.cons (.cell _) (.cons (.cell _) (.cons (.cell _) (.cons (.cell _) (.cons (.cell _) (.cons (.cell _) (.cons (.cell _) (.cons (.cell _) (.cons (.cell _) (.cons (.cell _) (.cons (.cell _) (.cons (.cell _) (.cons (.cell _) (.cons (.cell _) (.cons (.cell _) (.cons (.cell _) (.nil _ _))))))))))))))))))))))) rfl rfl rfl rfl rfl) .nil))))))))) ?_
  refine BP rfl rfl rfl rfl (kn rfl) rfl (kn rfl) sl_41 ap_41 rfl rfl (by first | omega | (dsimp only;omega)) (by first | omega | (dsimp only;omega)) ?_
  refine AG (A0 rfl (kn rfl) off_45_3) ?_
  refine D6 rfl rfl rfl (kn rfl) rfl (kn rfl) rfl rfl sz_41 rfl ?_
  refine AD ?_
  try refine A2 ?_
  refine A1 (A4 rfl rfl rfl (A6 rfl (kn rfl) (kn rfl) (AS (by first | omega | (dsimp only;omega)))) (A9 rfl rfl rfl rfl rfl .nil)) ?_
  try refine A2 ?_
  refine AR ⟨k+1,by omega⟩ (by dsimp only;omega) (fun K=>AM ⟨s_t,s_t,s_t,s_t,s_t,s_t,trivial⟩ ⟨s_b,s_b,s_b,trivial⟩ ⟨DK rfl rfl (by rw[htk,OT];rfl),rfl,trivial⟩)
 obtain rfl:k=e.fields.length:=by have:=of_decide_eq_false h;omega
 try refine A2 ?_
 refine A1 (A4 rfl rfl rfl (A0 rfl (kn rfl) off_45_8) (A4 rfl rfl rfl (A5 rfl (kn rfl) rfl rfl one_43) (A4 rfl rfl rfl (AT rfl (kn rfl) sle_43) (A9 rfl rfl rfl rfl rfl .nil)))) ?_
 try refine A2 ?_
 refine BB (ι:={ k:Nat // k<=e.keys.length })
  (fun k=>[(1,.box 1 0),(2,.box 2 0),(3,.box 3 0),(44,.part (.one (.row 28 e.keys.length (e.keys.flatMap D4)))),(45,.is (.int .i64 (e.keys.length:Int))),(46,.is (.int .i64 (k.1:Int)))])
  (fun _=>rvB e) (fun k=>rvR e e.fields.length k.1) (fun k=>e.keys.length-k.1) ⟨0,by omega⟩
  (fun K=>AM ⟨s_t,s_t,s_t,s_t,s_t,s_t,trivial⟩ ⟨s_b,s_b,s_b,trivial⟩ ⟨rfl,rfl,trivial⟩) ?_
 rintro⟨k,hk0⟩
 dsimp only at hk0 ⊢
 try refine A2 ?_
 refine A1 (A4 rfl rfl rfl (A6 rfl (kn rfl) (kn rfl) B7) .nil) ?_
 try refine A2 ?_
 refine AA rfl (fun h=>?_) (fun h=>?_)
 ·have hlt:k<e.keys.length:=by have:=of_decide_eq_true h;omega
  obtain⟨x,hx⟩:∃ x,e.keys[k]?=some x:=⟨_,List.getElem?_eq_getElem hlt⟩
  have htk:=FB (g:=G9) hx
  try refine A2 ?_
  refine AF ?_
  refine AG (AL rfl (kn rfl) (kn rfl) (by omega) hx CM sle_43 esz_43 (CG x)) ?_
  refine AG (AJ rfl (kn rfl) agg_67 sz_67) ?_
  refine AV 7 [.is (.int .i64 0),.is (.int .u64 0),.is (.string ⟨#[]⟩),.is (.slice none 0 0),.is (.string ⟨#[]⟩),.is (.slice none 0 0),.is (.slice none 0 0),.is (.int .i64 0),.is (.int .i64 0),.is (.int .u64 0),.is (.string ⟨#[]⟩),.is (.slice none 0 0),.is (.string ⟨#[]⟩),.is (.slice none 0 0),.is (.slice none 0 0),.is (.int .i64 0),.is (.int .u64 0),.is (.string ⟨#[]⟩),.is (.slice none 0 0),.is (.string ⟨#[]⟩),.is (.slice none 0 0),.is (.slice none 0 0),.is (.slice none 0 0),.is (.bool false),.is (.string ⟨#[]⟩),.is (.string ⟨#[]⟩),.is (.slice none 0 0),.is (.slice none 0 0)] rfl rfl rfl rfl zr_67 (fun w D M V=>⟨rfl,fun j x v h1 h2=>AU _ h1 h2 rfl⟩) rfl rfl rfl rfl ?_
  refine AP rfl rfl rfl (kn rfl) rfl (kn rfl) rfl rfl sz_67 ?_
  refine AD ?_
  try refine A2 ?_
  refine CF 9 C5 (by kernel_rfl) (A4 rfl rfl rfl (A0 rfl (kn rfl) off_45_8) (A4 rfl rfl rfl (A5 rfl (kn rfl) rfl rfl one_43) (A4 rfl rfl rfl (A0 rfl (kn rfl) off_67_0) (A4 rfl rfl rfl (A7 (ds:=[_,_,_,_,_,_,_]) 7 rfl (kn rfl) rfl rfl agg_40 sz_40 rfl) (A4 rfl rfl rfl (A0 rfl (kn rfl) off_67_1) (A4 rfl rfl rfl (A7 (ds:=[_,_,_,_,_,_,_,_,_,_,_,_,_,_,_,_,_,_,_,_,_]) 21 rfl (kn rfl) rfl rfl agg_45 sz_45 rfl) (A4 rfl rfl rfl (AE rfl (by kernel_rfl) (ih x.2 (Ed.kid_k (List.mem_of_getElem? hx))) ⟨(kn rfl),trivial⟩) (A4 rfl rfl rfl (BV (ds:=[_,_,_,_,_,_,_,_,_,_,_,_,_,_,_,_,_,_,_,_,_,_,_,_,_,_,_,_]) [(0,_),(1,_)] rfl ⟨rfl,(kn rfl),⟨rfl,(kn rfl),trivial⟩⟩ rfl pl_67 zr_67 (fun w D=>.cons (.cell _) (.cons (.cell _) (.cons (.cell _) (.cons (.cell _) (.cons (.cell _) (.cons (.cell _) (.cons (.cell _) (.cons (.cell _) (.cons (.cell _) (.cons (.cell _) (.cons (.cell _) (.cons (.cell _) (.cons (.cell _) (.cons (.cell _) (.cons (.cell _) (.cons (.cell _) (.cons (.cell _) (.cons (.cell _) (.cons (.cell _) (.cons (.cell _) (.cons (.cell _) (.cons (.cell _) (.cons (.cell _) (.cons (.cell _) (.cons (.cell _) (.cons (.cell _) (.cons (.cell _) (.cons (.cell _) (.nil _ _))))))))))))))))))))))))))))) rfl) (A4 rfl rfl rfl (B2 (ds:=[_,_,_,_,_,_,_,_,_,_,_,_,_,_,_,_,_,_,_,_,_,_,_,_,_,_,_,_]) [(0,_)] rfl ⟨rfl,(kn rfl),trivial⟩ rfl sl_43 sz_67 zr_67 (fun w D=>.cons (.cell _) (.cons (.cell _) (.cons (.cell _) (.cons (.cell _) (.cons (.cell _) (.cons (.cell _) (.cons (.cell _) (.cons (.cell _) (.cons (.cell _) (.cons (.cell _) (.cons (.cell _) (.cons (.cell _) (.cons (.cell _) (.cons (.cell _) (.cons (.cell _) (.cons (.cell _) (.cons (.cell _) (.cons (.cell _) (.cons (.cell _) (.cons (.cell _) (.cons (.cell _) (.cons (.cell _) (.cons (.cell _) (.cons (.cell _) (.cons (.cell _) (.cons (.cell _) (.cons (.cell _) (.cons (.cell _) (.nil _ _))))))))))))))))))))))))))))) rfl rfl rfl rfl rfl) .nil))))))))) ?_
  refine BP rfl rfl rfl rfl (kn rfl) rfl (kn rfl) sl_43 ap_43 rfl rfl (by first | omega | (dsimp only;omega)) (by first | omega | (dsimp only;omega)) ?_
  refine AG (A0 rfl (kn rfl) off_45_8) ?_
  refine D6 rfl rfl rfl (kn rfl) rfl (kn rfl) rfl rfl sz_43 rfl ?_
  refine AD ?_
  try refine A2 ?_
  refine A1 (A4 rfl rfl rfl (A6 rfl (kn rfl) (kn rfl) (AS (by first | omega | (dsimp only;omega)))) (A9 rfl rfl rfl rfl rfl .nil)) ?_
  try refine A2 ?_
  refine AR ⟨k+1,by omega⟩ (by dsimp only;omega) (fun K=>AM ⟨s_t,s_t,s_t,s_t,s_t,s_t,trivial⟩ ⟨s_b,s_b,s_b,trivial⟩ ⟨rfl,DK rfl rfl (by rw[htk,PQ];rfl),trivial⟩)
 obtain rfl:k=e.keys.length:=by have:=of_decide_eq_false h;omega
 try refine A2 ?_
 refine AF ?_
 refine GR 102 rfl rfl rfl rfl sl_42 ap_42 rfl rfl ?_
 refine BY ?_
 refine AD ?_
 try refine A2 ?_
 refine A1 (A4 rfl rfl rfl (A0 rfl (kn rfl) off_45_7) (A4 rfl rfl rfl (A5 rfl (kn rfl) rfl rfl one_42) (A4 rfl rfl rfl (AT rfl (kn rfl) sle_42) (A9 rfl rfl rfl rfl rfl .nil)))) ?_
 try refine A2 ?_
 refine BB (ι:={ k:Nat // k<=e.steps.length })
  (fun k=>[(1,.box 1 0),(2,.box 2 0),(3,.box 3 0),(8,.own 102),(64,.part (.one (.row 30 e.steps.length (e.steps.flatMap B5)))),(65,.is (.int .i64 (e.steps.length:Int))),(66,.is (.int .i64 (k.1:Int)))])
  (fun _=>rvB e) (fun k=>(102,⟨69,30,k.1,((e.steps.take k.1).map BQ).flatMap B5,false⟩)::rvR e e.fields.length e.keys.length) (fun k=>e.steps.length-k.1) ⟨0,by omega⟩
  (fun K=>AM ⟨s_t,s_t,s_t,s_t,s_t,s_t,s_t,trivial⟩ ⟨s_b,s_b,s_b,trivial⟩ ⟨rfl,rfl,rfl,trivial⟩) ?_
 rintro⟨k,hk0⟩
 dsimp only at hk0 ⊢
 try refine A2 ?_
 refine A1 (A4 rfl rfl rfl (A6 rfl (kn rfl) (kn rfl) B7) .nil) ?_
 try refine A2 ?_
 refine AA rfl (fun h=>?_) (fun h=>?_)
 ·have hlt:k<e.steps.length:=by have:=of_decide_eq_true h;omega
  obtain⟨x,hx⟩:∃ x,e.steps[k]?=some x:=⟨_,List.getElem?_eq_getElem hlt⟩
  have htk:=FB (g:=BQ) hx
  have mx:=List.mem_of_getElem? hx
  have hsx:=DO r2 x mx
  try refine A2 ?_
  refine AF ?_
  refine AG (AL rfl (kn rfl) (kn rfl) (by omega) hx BK sle_42 esz_42 (BJ x)) ?_
  refine AG (AJ rfl (kn rfl) agg_69 sz_69) ?_
  refine AV 10 [.is (.int .i64 0),.is (.int .i64 0),.is (.int .i64 0),.is (.int .u64 0),.is (.string ⟨#[]⟩),.is (.slice none 0 0),.is (.string ⟨#[]⟩),.is (.slice none 0 0),.is (.slice none 0 0),.is (.int .i64 0),.is (.int .i64 0),.is (.int .u64 0),.is (.string ⟨#[]⟩),.is (.slice none 0 0),.is (.string ⟨#[]⟩),.is (.slice none 0 0),.is (.slice none 0 0),.is (.int .i64 0),.is (.int .u64 0),.is (.string ⟨#[]⟩),.is (.slice none 0 0),.is (.string ⟨#[]⟩),.is (.slice none 0 0),.is (.slice none 0 0),.is (.slice none 0 0),.is (.bool false),.is (.string ⟨#[]⟩),.is (.string ⟨#[]⟩),.is (.slice none 0 0),.is (.slice none 0 0)] rfl rfl rfl rfl zr_69 (fun w D M V=>⟨rfl,fun j x v h1 h2=>AU _ h1 h2 rfl⟩) rfl rfl rfl rfl ?_
  refine AP rfl rfl rfl (kn rfl) rfl (kn rfl) rfl rfl sz_69 ?_
  refine AD ?_
  try refine A2 ?_
  refine CF 15 C5 (by kernel_rfl) (A9 rfl rfl rfl rfl rfl (A4 rfl rfl rfl (B2 (ds:=[_,_,_,_,_]) [(0,_),(1,_),(2,_),(3,_),(4,_)] rfl ⟨rfl,(kn rfl),⟨rfl,(kn rfl),⟨rfl,(kn rfl),⟨rfl,(kn rfl),⟨rfl,(kn rfl),trivial⟩⟩⟩⟩⟩ rfl sl_70 sz_3 zr_3 (fun w D=>.cons (.cell _) (.cons (.cell _) (.cons (.cell _) (.cons (.cell _) (.cons (.cell _) (.nil _ _)))))) rfl rfl rfl rfl rfl) (A4 rfl rfl rfl (A0 rfl (kn rfl) off_69_0) (A4 rfl rfl rfl (A5 rfl (kn rfl) rfl rfl one_3) (A4 rfl rfl rfl (AL (f:=fun z=>[.cell (.int .i64 z)]) (qs:=[0,1,3,2,4]) rfl (kn rfl) (kn rfl) (UV hsx) (VA hsx) (fun _=>rfl) sle_70 esz_70 rfl) (A4 rfl rfl rfl (AI rfl (kn rfl) one_3) (A4 rfl rfl rfl (A0 rfl (kn rfl) off_69_1) (A4 rfl rfl rfl (A5 rfl (kn rfl) rfl rfl one_3) (A4 rfl rfl rfl (A0 rfl (kn rfl) off_69_2) (A4 rfl rfl rfl (A7 (ds:=[_,_,_,_,_,_,_]) 7 rfl (kn rfl) rfl rfl agg_40 sz_40 rfl) (A4 rfl rfl rfl (A0 rfl (kn rfl) off_69_3) (A4 rfl rfl rfl (A7 (ds:=[_,_,_,_,_,_,_,_,_,_,_,_,_,_,_,_,_,_,_,_,_]) 21 rfl (kn rfl) rfl rfl agg_45 sz_45 rfl) (A4 rfl rfl rfl (AE rfl (by kernel_rfl) (ih x.2 (Ed.kid_s mx)) ⟨(kn rfl),trivial⟩) (A4 rfl rfl rfl (BV (ds:=[_,_,_,_,_,_,_,_,_,_,_,_,_,_,_,_,_,_,_,_,_,_,_,_,_,_,_,_,_,_]) [(0,_),(1,_),(2,_),(3,_)] rfl ⟨rfl,(kn rfl),⟨rfl,(kn rfl),⟨rfl,(kn rfl),⟨rfl,(kn rfl),trivial⟩⟩⟩⟩ rfl pl_69 zr_69 (fun w D=>.cons (.cell _) (.cons (.cell _) (.cons (.cell _) (.cons (.cell _) (.cons (.cell _) (.cons (.cell _) (.cons (.cell _) (.cons (.cell _) (.cons (.cell _) (.cons (.cell _) (.cons (.cell _) (.cons (.cell _) (.cons (.cell _) (.cons (.cell _) (.cons (.cell _) (.cons (.cell _) (.cons (.cell _) (.cons (.cell _) (.cons (.cell _) (.cons (.cell _) (.cons (.cell _) (.cons (.cell _) (.cons (.cell _) (.cons (.cell _) (.cons (.cell _) (.cons (.cell _) (.cons (.cell _) (.cons (.cell _) (.cons (.cell _) (.cons (.cell _) (.nil _ _))))))))))))))))))))))))))))))) rfl) (A4 rfl rfl rfl (B2 (ds:=[_,_,_,_,_,_,_,_,_,_,_,_,_,_,_,_,_,_,_,_,_,_,_,_,_,_,_,_,_,_]) [(0,_)] rfl ⟨rfl,(kn rfl),trivial⟩ rfl sl_42 sz_69 zr_69 (fun w D=>.cons (.cell _) (.cons (.cell _) (.cons (.cell _) (.cons (.cell _) (.cons (.cell _) (.cons (.cell _) (.cons (.cell _) (.cons (.cell _) (.cons (.cell _) (.cons (.cell _) (.cons (.cell _) (.cons (.cell _) (.cons (.cell _) (.cons (.cell _) (.cons (.cell _) (.cons (.cell _) (.cons (.cell _) (.cons (.cell _) (.cons (.cell _) (.cons (.cell _) (.cons (.cell _) (.cons (.cell _) (.cons (.cell _) (.cons (.cell _) (.cons (.cell _) (.cons (.cell _) (.cons (.cell _) (.cons (.cell _) (.cons (.cell _) (.cons (.cell _) (.nil _ _))))))))))))))))))))))))))))))) rfl rfl rfl rfl rfl) .nil))))))))))))))) ?_
  refine BP rfl rfl rfl rfl (kn rfl) rfl (kn rfl) sl_42 ap_42 rfl rfl (by first | omega | (dsimp only;omega)) (by first | omega | (dsimp only;omega)) ?_
  refine BY ?_
  refine AD ?_
  try refine A2 ?_
  refine A1 (A4 rfl rfl rfl (A6 rfl (kn rfl) (kn rfl) (AS (by first | omega | (dsimp only;omega)))) (A9 rfl rfl rfl rfl rfl .nil)) ?_
  try refine A2 ?_
  refine AR ⟨k+1,by omega⟩ (by dsimp only;omega) (fun K=>AM ⟨s_t,s_t,s_t,s_t,s_t,s_t,s_t,trivial⟩ ⟨s_b,s_b,s_b,trivial⟩ ⟨DK rfl rfl (by rw[htk,PO];rfl),rfl,rfl,trivial⟩)
 obtain rfl:k=e.steps.length:=by have:=of_decide_eq_false h;omega
 try refine A2 ?_
 refine CP (n':=(e.steps.map BQ).length) (ds':=(e.steps.map BQ).flatMap B5) (by rw[List.length_map]) (by rw[List.take_length]) ?_
 refine BU 8 102 rfl rfl rfl ?_
 refine AF ?_
 refine BA ?_
 refine AG (AE rfl (by kernel_rfl) (ht) ⟨(kn rfl),trivial⟩) ?_
 refine AG (A0 rfl (kn rfl) off_45_7) ?_
 refine C7 rfl rfl rfl (kn rfl) rfl (kn rfl) rfl rfl sz_42 rfl ?_
 refine AD ?_
 try refine A2 ?_
 refine CI 3 15 100 rfl rfl rfl rfl rfl ?_
 refine CI 3 20 101 rfl rfl rfl rfl rfl ?_
 refine AF ?_
 refine AG (A7 (ds:=[_,_,_,_,_,_,_,_,_,_,_,_,_,_,_,_,_,_,_,_,_]) 21 rfl (kn rfl) rfl rfl agg_45 sz_45 rfl) ?_
 refine AP rfl rfl rfl (kn rfl) rfl (kn rfl) rfl rfl sz_45 ?_
 refine AD ?_
 try refine A2 ?_
 exact A8 rfl rfl (.cell rfl rfl rfl agg_45 sz_45 rfl (.nil)) (Imp.of_eq (by rw[CL,List.take_length,List.take_length];unfold ed;simp only[Ed.kind,Ed.old,Ed.new,Ed.fields,Ed.rests,Ed.ro,Ed.rn,Ed.steps,Ed.keys,List.length_map];rfl)) rfl
theorem VO(e:Ed):e.Sm->B3 e=true->TM e:=Ed.kids_ind (P:=fun e=>e.Sm->B3 e=true->TM e) (fun e ih h hr=>S1 e h hr fun x hx=>ih x hx (h.kid hx) (E0 hr x hx)) e
end Go.Proofs.Ytecfdcdkkgmkpaa
