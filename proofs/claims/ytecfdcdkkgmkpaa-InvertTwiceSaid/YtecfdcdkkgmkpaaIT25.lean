/- Part 25. Conditions: as each theorem says. -/
import Derived.Test.YtecfdcdkkgmkpaaIT24
import Derived.Test.YtecfdcdkkgmkpaaProg
import Derived.ProofKit
import Derived.OpenShut
import Derived.Carry
import Derived.ChangeSame
set_option maxRecDepth 100000
namespace Go.Proofs.Ytecfdcdkkgmkpaa
open Go.RowKit
theorem RE(e:Ed)(hs:e.Sm)(hr:B5 e=true):EF Try.prog [] 11 [.many (ed e)] (.part (.many (ed (BB e)))):=by
 refine AF 5 Try.func11 rfl rfl rfl fun w D=>?_
 try refine A1 ?_
 refine AI ?_
 refine UB 1000 200 rfl rfl rfl rfl (kn rfl) rfl rfl rfl (fun g=>?_)
 refine BD 2 [.is (.int .i64 0),.is (.int .i64 0),.is (.int .u64 0),.is (.string ⟨#[]⟩),.is (.slice none 0 0),.is (.string ⟨#[]⟩),.is (.slice none 0 0),.is (.slice none 0 0),.is (.int .i64 0),.is (.int .u64 0),.is (.string ⟨#[]⟩),.is (.slice none 0 0),.is (.string ⟨#[]⟩),.is (.slice none 0 0),.is (.slice none 0 0),.is (.slice none 0 0),.is (.bool false),.is (.string ⟨#[]⟩),.is (.string ⟨#[]⟩),.is (.slice none 0 0),.is (.slice none 0 0)] rfl rfl rfl rfl zr_32 (fun w D M V=>⟨rfl,fun j x v h1 h2=>BC _ h1 h2 rfl⟩) rfl rfl rfl rfl ?_
 refine AH ?_
 try refine A1 ?_
 have hc:=V7 e hs hr 32 21 1 [] [] (.slice (some ⟨g,0,none⟩) 1 1) rfl
 refine DM (ds':=[]++(ed e++[])) rfl (by simp) ?_
 refine AI ?_
 refine VX rfl rfl rfl rfl (by kernel_rfl) hc trivial ⟨rfl,trivial⟩ (fun w D M V a hT=>⟨⟨⟨g,1,1,hT 200 _ rfl,Lies.cell_eq (hT 1 _ rfl)⟩,hT 200 _ rfl⟩,trivial⟩) YT.tidy ?_
 rintro _ _ _ ⟨rfl,rfl,rfl⟩
 refine AH ?_
 try refine A1 ?_
 refine V3 (t:=1) (s:=3) rfl rfl ?_
 refine AI ?_
 refine AK (GB (m:=21) (es:=ed (BB e)) rfl (kn rfl) rfl (by rw[List.nil_append,List.append_nil];rfl) (by rw[List.nil_append,List.append_nil];exact Nat.le_refl 21) agg_32 sz_32) ?_
 refine B6 rfl rfl rfl (kn rfl) rfl (kn rfl) rfl rfl sz_32 ?_
 refine AH ?_
 try refine A1 ?_
 exact A7 rfl rfl (.cell rfl rfl rfl agg_32 sz_32 rfl (.nil)) (Imp.of_eq rfl) rfl
abbrev vA:Vl:=WL 1
abbrev vB2:Vl:=.mk 2 0 [98] [] [] [] []
abbrev exI:Ed:=.mk 1 vA vB2 [] false [] [] [] []
abbrev exJ2:Ed:=.mk 1 vB2 vA [] false [] [] [] []
theorem vB2_sm:VSm 80 vB2:=by
 refine⟨.mk _ (by decide) (by decide) (by decide) (show 1<=maxLen by decide) (Nat.zero_le _) (Nat.zero_le _) (Nat.zero_le _) (Nat.zero_le _) (fun _ h=>by cases h) (fun _ h=>by cases h) (fun _ h=>by cases h) (fun _ h=>by cases h) (fun _ h=>by cases h),.mk _ (show 1<=400 by decide) (Nat.zero_le _) (fun _ h=>by cases h),?_⟩
 rw[CE]
 simp[Vl.list,Vl.fields,Vl.pairs,lnodes,fnodes,pnodes]
theorem T7:vright vB2=true:=by simp[vright,fright,lright,pright,vplain,Vl.kind,Vl.num,Vl.text,Vl.fields,Vl.rest,Vl.list,Vl.pairs]
theorem SJ:DN vA vB2=false:=by
 unfold DN
 rw[I0]
 rfl
theorem V0:BB exI=exJ2:=by rw[CC];rfl
theorem ML:B5 exI=true:=by rw[P9,Q9,T7,SJ];rfl
set_option maxHeartbeats 1000000 in
theorem Q5:EF Try.prog [] 6 [] (.part (tP true)):=by
 have zA:VSm 80 vA:=TN 1 1 (by decide) (by decide) (by decide)
 have sA:=zA.short (by decide)
 have sB:=vB2_sm.short (by decide)
 have hI:exI.Sm:=OP 1 _ _ ⟨by decide,by decide⟩ zA vB2_sm
 have hJ:exJ2.Sm:=OP 1 _ _ ⟨by decide,by decide⟩ vB2_sm zA
 have hi:=RE exI hI ML
 have hJr:=HP exI ML
 rw[V0]at hi hJr
 refine AF 29 Try.func6 rfl rfl rfl fun w D=>?_
 try refine A1 ?_
 refine A0 (AC rfl rfl rfl rfl rfl .nil) ?_
 try refine A1 ?_
 refine AI ?_
 refine AK (EX (ds:=[_,_,_,.row 8 0 [],_,.row 7 0 [],.row 14 0 []]) [(0,_),(1,_)] rfl ⟨rfl,(kn rfl),⟨rfl,(kn rfl),trivial⟩⟩ rfl pl_27 zr_27 (fun w D=>.cons (.cell _) (.cons (.cell _) (.cons (.cell _) (.cons (.none _ _ _) (.cons (.cell _) (.cons (.none _ _ _) (.cons (.none _ _ _) (.nil _ _)))))))) rfl) ?_
 refine AK (EX (ds:=[_,_,_,.row 8 0 [],_,.row 7 0 [],.row 14 0 []]) [(0,_),(2,_)] rfl ⟨rfl,(kn rfl),⟨rfl,(kn rfl),trivial⟩⟩ rfl pl_27 zr_27 (fun w D=>.cons (.cell _) (.cons (.cell _) (.cons (.cell _) (.cons (.none _ _ _) (.cons (.cell _) (.cons (.none _ _ _) (.cons (.none _ _ _) (.nil _ _)))))))) rfl) ?_
 refine BD 1 [.is (.int .i64 0),.is (.int .u64 0),.is (.string ⟨#[]⟩),.is (.slice none 0 0),.is (.string ⟨#[]⟩),.is (.slice none 0 0),.is (.slice none 0 0)] rfl rfl rfl rfl zr_27 (fun w D M V=>⟨rfl,fun j x v h1 h2=>BC _ h1 h2 rfl⟩) rfl rfl rfl rfl ?_
 refine BD 2 [.is (.int .i64 0),.is (.int .u64 0),.is (.string ⟨#[]⟩),.is (.slice none 0 0),.is (.string ⟨#[]⟩),.is (.slice none 0 0),.is (.slice none 0 0)] rfl rfl rfl rfl zr_27 (fun w D M V=>⟨rfl,fun j x v h1 h2=>BC _ h1 h2 rfl⟩) rfl rfl rfl rfl ?_
 refine B6 rfl rfl rfl (kn rfl) rfl (kn rfl) rfl rfl sz_27 ?_
 refine B6 rfl rfl rfl (kn rfl) rfl (kn rfl) rfl rfl sz_27 ?_
 refine AH ?_
 try refine A1 ?_
 refine AI ?_
 refine AK (AB (ds:=[_,_,_,_,_,_,_]) 7 rfl (kn rfl) rfl rfl agg_27 sz_27 rfl) ?_
 refine AK (AB (ds:=[_,_,_,_,_,_,_]) 7 rfl (kn rfl) rfl rfl agg_27 sz_27 rfl) ?_
 refine AK (EX (ds:=[_,_,_,_,_,_,_,_,_,_,_,_,_,_,_,.row 22 0 [],_,_,_,.row 30 0 [],.row 28 0 []]) [(0,_),(1,_),(2,_)] rfl ⟨rfl,(kn rfl),⟨rfl,(kn rfl),⟨rfl,(kn rfl),trivial⟩⟩⟩ rfl pl_32 zr_32 (fun w D=>.cons (.cell _) (.cons (.cell _) (.cons (.cell _) (.cons (.cell _) (.cons (.cell _) (.cons (.cell _) (.cons (.cell _) (.cons (.cell _) (.cons (.cell _) (.cons (.cell _) (.cons (.cell _) (.cons (.cell _) (.cons (.cell _) (.cons (.cell _) (.cons (.cell _) (.cons (.none _ _ _) (.cons (.cell _) (.cons (.cell _) (.cons (.cell _) (.cons (.none _ _ _) (.cons (.none _ _ _) (.nil _ _)))))))))))))))))))))) rfl) ?_
 refine AK (AG rfl (by kernel_rfl) (hi) ⟨(kn rfl),trivial⟩) ?_
 refine BD 3 [.is (.int .i64 0),.is (.int .i64 0),.is (.int .u64 0),.is (.string ⟨#[]⟩),.is (.slice none 0 0),.is (.string ⟨#[]⟩),.is (.slice none 0 0),.is (.slice none 0 0),.is (.int .i64 0),.is (.int .u64 0),.is (.string ⟨#[]⟩),.is (.slice none 0 0),.is (.string ⟨#[]⟩),.is (.slice none 0 0),.is (.slice none 0 0),.is (.slice none 0 0),.is (.bool false),.is (.string ⟨#[]⟩),.is (.string ⟨#[]⟩),.is (.slice none 0 0),.is (.slice none 0 0)] rfl rfl rfl rfl zr_32 (fun w D M V=>⟨rfl,fun j x v h1 h2=>BC _ h1 h2 rfl⟩) rfl rfl rfl rfl ?_
 refine B6 rfl rfl rfl (kn rfl) rfl (kn rfl) rfl rfl sz_32 ?_
 refine AH ?_
 try refine A1 ?_
 refine A0 (A3 rfl rfl rfl (A4 rfl (kn rfl) off_32_0) (A3 rfl rfl rfl (A5 rfl (kn rfl) rfl rfl one_3) (A3 rfl rfl rfl (A9 rfl (kn rfl) (kn rfl) AL) (A8 rfl rfl rfl rfl rfl (Walk.gd _ rfl rfl rfl (fun h=>A4 rfl (kn rfl) off_32_1) (Walk.gd _ rfl rfl rfl (fun h=>AB (ds:=[_,_,_,_,_,_,_]) 7 rfl (A2 rfl h) rfl rfl agg_27 sz_27 rfl) (Walk.gd _ rfl rfl rfl (fun h=>AB (ds:=[_,_,_,_,_,_,_]) 7 rfl (kn rfl) rfl rfl agg_27 sz_27 rfl) (Walk.gd _ rfl rfl rfl (fun h=>AG rfl (by kernel_rfl) (ET vB2 vB2 sB sB) ⟨(A2 rfl h),⟨(A2 rfl h),trivial⟩⟩) (A3 rfl rfl rfl (AP rfl (kn rfl) (fun hb=>A2 rfl hb)) (A8 rfl rfl rfl rfl rfl (Walk.gd _ rfl rfl rfl (fun h=>A4 rfl (kn rfl) off_32_2) (Walk.gd _ rfl rfl rfl (fun h=>AB (ds:=[_,_,_,_,_,_,_]) 7 rfl (A2 rfl h) rfl rfl agg_27 sz_27 rfl) (Walk.gd _ rfl rfl rfl (fun h=>AB (ds:=[_,_,_,_,_,_,_]) 7 rfl (kn rfl) rfl rfl agg_27 sz_27 rfl) (Walk.gd _ rfl rfl rfl (fun h=>AG rfl (by kernel_rfl) (ET vA vA sA sA) ⟨(A2 rfl h),⟨(A2 rfl h),trivial⟩⟩) (A3 rfl rfl rfl (AP rfl (kn rfl) (fun hb=>A2 rfl hb)) (A8 rfl rfl rfl rfl rfl (Walk.gd _ rfl rfl rfl (fun h=>AB (ds:=[_,_,_,_,_,_,_,_,_,_,_,_,_,_,_,_,_,_,_,_,_]) 21 rfl (kn rfl) rfl rfl agg_32 sz_32 rfl) (Walk.gd _ rfl rfl rfl (fun h=>AG rfl (by kernel_rfl) (J6 exJ2 hJ) ⟨(A2 rfl h),trivial⟩) (A3 rfl rfl rfl (AP rfl (kn rfl) (fun hb=>A2 rfl hb)) (AC rfl rfl rfl rfl rfl .nil)))))))))))))))))))) ?_
 try refine A1 ?_
 exact A7 rfl rfl (.tmp (kn rfl) (.nil)) (AR (by rw[hJr];simp[MJ,Ed.kind])) rfl
theorem X6{x:Bool}(h:(!x)=true):x=false:=by cases x<;>first | rfl | cases h
set_option maxHeartbeats 4000000 in
theorem S7(e:Ed)(he:e.Fine):EF Try.prog [] 4 [.many (ed e)] (.part (tP true)):=by
 refine AF 44 Try.func4 rfl rfl rfl fun w D=>?_
 try refine A1 ?_
 refine AI ?_
 refine BS 1 rfl rfl rfl rfl (kn rfl) rfl rfl rfl rfl ?_
 refine C7 ?_
 refine AH ?_
 try refine A1 ?_
 refine A0 (A3 rfl rfl rfl (AG rfl (by kernel_rfl) (Q5) trivial) (A3 rfl rfl rfl (DL rfl (kn rfl)) .nil)) ?_
 try refine A1 ?_
 refine OJ ?_
 try refine A1 ?_
 refine A0 (A3 rfl rfl rfl (AB (ds:=[_,_,_,_,_,_,_,_,_,_,_,_,_,_,_,_,_,_,_,_,_]) 21 rfl (kn rfl) rfl rfl agg_32 sz_32 rfl) (A3 rfl rfl rfl (AG rfl (by kernel_rfl) (V8 e he) ⟨(kn rfl),⟨(kn rfl),trivial⟩⟩) (A8 rfl rfl rfl rfl rfl (Walk.gd _ rfl rfl rfl (fun h=>AB (ds:=[_,_,_,_,_,_,_,_,_,_,_,_,_,_,_,_,_,_,_,_,_]) 21 rfl (kn rfl) rfl rfl agg_32 sz_32 rfl) (Walk.gd _ rfl rfl rfl (fun h=>AG rfl (by kernel_rfl) (J6 e (RH he (X6 h))) ⟨(A2 rfl h),trivial⟩) (Walk.gd _ rfl rfl rfl (fun h=>DL rfl (A2 rfl h)) (A3 rfl rfl rfl (FK rfl (kn rfl) (fun hb=>A2 rfl hb)) .nil))))))) ?_
 try refine A1 ?_
 refine AE rfl (fun h=>?_) (fun h=>?_)
 ·try refine A1 ?_
  refine A0 (AC rfl rfl rfl rfl rfl .nil) ?_
  try refine A1 ?_
  exact A7 rfl rfl (.tmp (kn rfl) (.nil)) (Imp.of_eq rfl) rfl
 simp only[Bool.or_eq_false_iff,Bool.not_eq_false']at h
 obtain⟨g1,g2⟩:=h
 have hs:=RH he g1
 have hse:=VM hs
 have hre:=HP e g2
 have hinv:=RE e hs g2
 have htw:=RE (BB e) hse hre
 rw[S9 e g2]at htw
 try refine A1 ?_
 refine AI ?_
 refine AK (AB (ds:=[_,_,_,_,_,_,_,_,_,_,_,_,_,_,_,_,_,_,_,_,_]) 21 rfl (kn rfl) rfl rfl agg_32 sz_32 rfl) ?_
 refine AK (AG rfl (by kernel_rfl) (hinv) ⟨(kn rfl),trivial⟩) ?_
 refine BD 3 [.is (.int .i64 0),.is (.int .i64 0),.is (.int .u64 0),.is (.string ⟨#[]⟩),.is (.slice none 0 0),.is (.string ⟨#[]⟩),.is (.slice none 0 0),.is (.slice none 0 0),.is (.int .i64 0),.is (.int .u64 0),.is (.string ⟨#[]⟩),.is (.slice none 0 0),.is (.string ⟨#[]⟩),.is (.slice none 0 0),.is (.slice none 0 0),.is (.slice none 0 0),.is (.bool false),.is (.string ⟨#[]⟩),.is (.string ⟨#[]⟩),.is (.slice none 0 0),.is (.slice none 0 0)] rfl rfl rfl rfl zr_32 (fun w D M V=>⟨rfl,fun j x v h1 h2=>BC _ h1 h2 rfl⟩) rfl rfl rfl rfl ?_
 refine B6 rfl rfl rfl (kn rfl) rfl (kn rfl) rfl rfl sz_32 ?_
 refine AH ?_
 try refine A1 ?_
 refine BZ C8 (by kernel_rfl) (A3 rfl rfl rfl (AB (ds:=[_,_,_,_,_,_,_,_,_,_,_,_,_,_,_,_,_,_,_,_,_]) 21 rfl (kn rfl) rfl rfl agg_32 sz_32 rfl) (A3 rfl rfl rfl (AG rfl (by kernel_rfl) (J6 (BB e) hse) ⟨(kn rfl),trivial⟩) (A8 rfl rfl rfl rfl rfl (Walk.gd _ rfl rfl rfl (fun h=>AB (ds:=[_,_,_,_,_,_,_,_,_,_,_,_,_,_,_,_,_,_,_,_,_]) 21 rfl (kn rfl) rfl rfl agg_32 sz_32 rfl) (Walk.gd _ rfl rfl rfl (fun h=>AG rfl (by kernel_rfl) (htw) ⟨(A2 rfl h),trivial⟩) (Walk.gd _ rfl rfl rfl (fun h=>AB (ds:=[_,_,_,_,_,_,_,_,_,_,_,_,_,_,_,_,_,_,_,_,_]) 21 rfl (kn rfl) rfl rfl agg_32 sz_32 rfl) (Walk.gd _ rfl rfl rfl (fun h=>AG rfl (by kernel_rfl) (S8 e e hs hs) ⟨(A2 rfl h),⟨(A2 rfl h),trivial⟩⟩) (A3 rfl rfl rfl (AP rfl (kn rfl) (fun hb=>A2 rfl hb)) (A8 rfl rfl rfl rfl rfl (Walk.gd _ rfl rfl rfl (fun h=>AB (ds:=[_,_,_,_,_,_,_,_,_,_,_,_,_,_,_,_,_,_,_,_,_]) 21 rfl (kn rfl) rfl rfl agg_32 sz_32 rfl) (Walk.gd _ rfl rfl rfl (fun h=>AG rfl (by kernel_rfl) (MP (BB e) hse) ⟨(A2 rfl h),trivial⟩) (Walk.gd _ rfl rfl rfl (fun h=>AB (ds:=[_,_,_,_,_,_,_,_,_,_,_,_,_,_,_,_,_,_,_,_,_]) 21 rfl (kn rfl) rfl rfl agg_32 sz_32 rfl) (Walk.gd _ rfl rfl rfl (fun h=>AG rfl (by kernel_rfl) (MP e hs) ⟨(A2 rfl h),trivial⟩) (Walk.gd _ rfl rfl rfl (fun h=>A9 rfl (A2 rfl h) (A2 rfl h) AL) (A3 rfl rfl rfl (AP rfl (kn rfl) (fun hb=>A2 rfl hb)) (A8 rfl rfl rfl rfl rfl (Walk.gd _ rfl rfl rfl (fun h=>AB (ds:=[_,_,_,_,_,_,_,_,_,_,_,_,_,_,_,_,_,_,_,_,_]) 21 rfl (kn rfl) rfl rfl agg_32 sz_32 rfl) (Walk.gd _ rfl rfl rfl (fun h=>AG rfl (by kernel_rfl) (KD (BB e) hse) ⟨(A2 rfl h),trivial⟩) (Walk.gd _ rfl rfl rfl (fun h=>AB (ds:=[_,_,_,_,_,_,_,_,_,_,_,_,_,_,_,_,_,_,_,_,_]) 21 rfl (kn rfl) rfl rfl agg_32 sz_32 rfl) (Walk.gd _ rfl rfl rfl (fun h=>AG rfl (by kernel_rfl) (KD e hs) ⟨(A2 rfl h),trivial⟩) (Walk.gd _ rfl rfl rfl (fun h=>A9 rfl (A2 rfl h) (A2 rfl h) AL) (A3 rfl rfl rfl (AP rfl (kn rfl) (fun hb=>A2 rfl hb)) (A8 rfl rfl rfl rfl rfl (Walk.gd _ rfl rfl rfl (fun h=>A4 rfl (kn rfl) off_32_0) (Walk.gd _ rfl rfl rfl (fun h=>A5 rfl (A2 rfl h) rfl rfl one_3) (Walk.gd _ rfl rfl rfl (fun h=>A4 rfl (kn rfl) off_32_0) (Walk.gd _ rfl rfl rfl (fun h=>A5 rfl (A2 rfl h) rfl rfl one_3) (Walk.gd _ rfl rfl rfl (fun h=>A9 rfl (A2 rfl h) (A2 rfl h) AL) (A3 rfl rfl rfl (AP rfl (kn rfl) (fun hb=>A2 rfl hb)) (AC rfl rfl rfl rfl rfl .nil)))))))))))))))))))))))))))))) ?_
 try refine A1 ?_
 exact A7 rfl rfl (.tmp (kn rfl) (.nil)) (AR (by rw[hre,U0,QM,O8,CR];simp)) rfl
section
open Go.ChangeShapes Go.WideShapes Go.ChangeAt Go.RowKit
section
variable{H:Type}{enc:TypeId×Value->H}{P:Program}
theorem UE{x:Int}(h:(Lit.int .u64 x).wf=true):∃ n:Nat,x=(n:Int)/\n<18446744073709551616:=by
 have h1:IntKind.u64.min=0:=rfl
 have h2:IntKind.u64.max=18446744073709551615:=rfl
 simp only[Lit.wf,Bool.and_eq_true,decide_eq_true_eq]at h
 exact⟨x.toNat,by omega,by omega⟩
theorem J5{x:Int}(h:(Lit.int .i64 x).wf=true):-9223372036854775808<=x/\x<9223372036854775808:=by
 have h1:IntKind.i64.min = -9223372036854775808:=rfl
 have h2:IntKind.i64.max=9223372036854775807:=rfl
 simp only[Lit.wf,Bool.and_eq_true,decide_eq_true_eq]at h
 omega
theorem IG(hl:laidOutB P=true){W W':World}(hb:Below W.heap.size W W'){sp:Nat->Bool}:∀ {ts:List TypeId} {vs:List Value} {ds:List (DataW H)} {ps:List MemPlace},
  (ts.all fun t=>P.readableRec t&&decide (t<P.types.size))=true->DataW.TrodAll enc P W 0 (fun _=>true) true ts vs ds ps->(∀ p∈ps,p.block<W.heap.size)->(∀ p∈ps,sp p.block=true) ->
  DataW.TrodAll enc P W' 0 sp true ts vs ds ps
 | [],_,_,_,_,h,_,_=>by
  obtain⟨rfl,rfl,rfl⟩:=trodAll_nil h
  exact trodAll_mk0
 | t::ts,_,_,_,ht,h,hlt,hsp=>by
  simp only[List.all_cons,Bool.and_eq_true,decide_eq_true_eq]at ht
  obtain⟨v,vs,d,ds,p,q,rfl,rfl,rfl,h0,hr⟩:=trodAll_cons h
  exact trodAll_cons_mk (WideElems.Trod_stays hl ht.1.1 ht.1.2 h0 (fun x hx=>hb.same (hlt x (List.mem_append_left _ hx))) (fun x hx=>hsp x (List.mem_append_left _ hx)))
   (IG hl hb ht.2 hr (fun x hx=>hlt x (List.mem_append_right _ hx)) (fun x hx=>hsp x (List.mem_append_right _ hx)))
theorem TO{f:Func}{s:ChangeSpec}{W W':World}{args:Array Value}{ds:List (DataW H)}{before:List MemPlace}
  (hl:laidOutB P=true) (ht:(f.params.toList.all fun t=>P.readableRec t&&decide (t<P.types.size))=true)
  (hvars:s.vars=[]) (hs:s.fn H (ds++[])={ results:=[.lit (.bool true)],args:=ds }) {tb:TypeId} (hres:f.resultTypes = #[tb]) (hbool:P.underlying tb=some .bool)
  (hW:DataW.Whole enc P f.params.toList s.vars false W args.toList ds [] before)
  (hA:DataW.TrodAll enc P W 0 (fun _=>true) true f.params.toList args.toList ds before) (hb:Below W.heap.size W W'):
  s.post enc P f false true false false W args (.bool true) W':=by
 have hlt:∀ p∈before,p.block<W.heap.size:=fun p hp=>hW.lt p hp
 have e1:(Value.bool true).resultList f.resultTypes.size=[Value.bool true]:=by rw[hres];rfl
 refine⟨ds,[],before,[],before,[],hW,?_,?_,?_,World.keptBut_mono (fun p hp=>⟨hp,by simpa using hp⟩) (hb.frame (· ∈ before)),fun h=>by cases h⟩
 ·rw[hs,e1,hres]
  exact trodAll_mk1 (shut_bool hbool _)
 ·rw[hs]
  exact IG hl hb ht hA hlt (fun p hp=>by simpa using hlt p hp)
 ·rw[hs,hvars]
  rfl
end
end
section
open Go.ChangeShapes Go.WideShapes Go.ChangeAt Go.RowKit
theorem GT(s:ByteArray):str s.data.toList=s:=by
 unfold str
 simp
section
variable{H:Type}{enc:TypeId×Value->H}{w:World}{base:Nat}{spare:Nat->Bool}{held:Bool}
theorem E5:Try.prog.cellsOf 27=7:=by kernel_rfl
theorem PP:Try.prog.cellsOf 97=8:=by kernel_rfl
theorem PQ:Try.prog.cellsOf 101=14:=by kernel_rfl
theorem FA:Try.prog.cellsOf 3=1:=by kernel_rfl
theorem SL:Try.prog.cellsOf 22=1:=by kernel_rfl
theorem I7:Try.prog.cellsOf 9=1:=by kernel_rfl
theorem VE:Try.prog.cellsOf 23=1:=by kernel_rfl
theorem V2:Try.prog.cellsOf 24=1:=by kernel_rfl
theorem VV:Try.prog.cellsOf 25=1:=by kernel_rfl
set_option maxHeartbeats 1000000 in
theorem U4:∀ (fuel:Nat) (cs:List Value) (x:DataW H×List MemPlace),DataW.trod enc Try.prog w base spare held fuel 27 cs=some x -> ∃ v:Vl,Fits w (Old w) v.dats cs/\v.Fine:=by
 intro fuel
 induction fuel using Nat.strongRecOn with
 | ind fuel ih=>
  intro cs x h
  obtain⟨xs,m,rfl,_,hcl,hxl,hf⟩:=DataW.trod_struct Try.underlying27 h
  rw[E5]at hcl
  match cs,hcl,xs,hxl with
  | [c0,c1,c2,c3,c4,c5,c6],_,[y0,y1,y2,y3,y4,y5,y6],_=>
   have h0:DataW.trod enc Try.prog w base spare held m 3 [c0]=some y0:=by simpa[FA]using hf 0 _ rfl
   have h1:DataW.trod enc Try.prog w base spare held m 22 [c1]=some y1:=by simpa[SL]using hf 1 _ rfl
   have h2:DataW.trod enc Try.prog w base spare held m 9 [c2]=some y2:=by simpa[I7]using hf 2 _ rfl
   have h3:DataW.trod enc Try.prog w base spare held m 23 [c3]=some y3:=by simpa[VE]using hf 3 _ rfl
   have h4:DataW.trod enc Try.prog w base spare held m 9 [c4]=some y4:=by simpa[I7]using hf 4 _ rfl
   have h5:DataW.trod enc Try.prog w base spare held m 24 [c5]=some y5:=by simpa[V2]using hf 5 _ rfl
   have h6:DataW.trod enc Try.prog w base spare held m 25 [c6]=some y6:=by simpa[VV]using hf 6 _ rfl
   obtain⟨k,e0,_,wk⟩:=DataW.trod_int Try.underlying3 h0
   obtain⟨z,e1,_,wz⟩:=DataW.trod_int Try.underlying22 h1
   obtain⟨s,e2,_,ws⟩:=DataW.trod_string Try.underlying9 h2
   obtain⟨t,e4,_,wt⟩:=DataW.trod_string Try.underlying9 h4
   obtain⟨n,rfl,hn⟩:=UE wz
   obtain⟨lo,hi⟩:=J5 wk
   obtain⟨pf,fs,cf,e3,lf,ff,mf,mf'⟩:=FC (f:=fieldDats) (F:=fun f:Int×Vl=>(-9223372036854775808<=f.1/\f.1<9223372036854775808)/\f.2.Fine) Try.underlying23 (by omega) PP C0 (fun n hn cs x hx=>by
    obtain⟨zs,q,rfl,_,hzl,hql,hg⟩:=DataW.trod_struct Try.underlying97 hx
    rw[PP]at hzl
    match cs,hzl,zs,hql with
    | d0::ds,hds,[u0,u1],_=>
     have hds:ds.length=7:=by simpa using hds
     have g0:DataW.trod enc Try.prog w base spare held q 3 [d0]=some u0:=by simpa[FA]using hg 0 _ rfl
     have g1:DataW.trod enc Try.prog w base spare held q 27 ds=some u1:=by
      have:=hg 1 _ rfl
      change DataW.trod _ _ _ _ _ _ _ 27 (ds.take (Try.prog.cellsOf 27))=some u1 at this
      rw[E5]at this
      rwa [List.take_of_length_le (by omega)]at this
     obtain⟨b,e,_,wb⟩:=DataW.trod_int Try.underlying3 g0
     obtain⟨v,hv,hV⟩:=ih q (by omega) ds u1 g1
     simp only[List.cons.injEq,and_true]at e
     subst e
     exact⟨(b,v),.cons (.cell _) hv,J5 wb,hV⟩) h3
   obtain⟨pl,ls,cl,e5,ll,fl,ml,ml'⟩:=FC (f:=Vl.dats) (F:=Vl.Fine) Try.underlying24 (by omega) E5 Vl.dats_len (fun n hn cs x hx=>ih n (by omega) cs x hx) h5
   obtain⟨pp,ps,cp,e6,lp,fp,mp,mp'⟩:=FC (f:=pairDats) (F:=fun p:Vl×Vl=>p.1.Fine/\p.2.Fine) Try.underlying25 (by omega) PQ BY (fun n hn cs x hx=>by
    obtain⟨zs,q,rfl,_,hzl,hql,hg⟩:=DataW.trod_struct Try.underlying101 hx
    rw[PQ]at hzl
    match zs,hql with
    | [u0,u1],_=>
     have g0:=hg 0 _ rfl
     have g1:=hg 1 _ rfl
     change DataW.trod _ _ _ _ _ _ _ 27 (cs.take (Try.prog.cellsOf 27))=some u0 at g0
     change DataW.trod _ _ _ _ _ _ _ 27 ((cs.drop 7).take (Try.prog.cellsOf 27))=some u1 at g1
     rw[E5]at g0 g1
     obtain⟨a,ha,hA⟩:=ih q (by omega) _ u0 g0
     obtain⟨b,hb,hB⟩:=ih q (by omega) _ u1 g1
     refine⟨(a,b),?_,hA,hB⟩
     have:=ha.append hb
     rw[List.take_of_length_le (l:=cs.drop 7) (by rw[List.length_drop];omega),List.take_append_drop]at this
     exact this) h6
   simp only[List.cons.injEq,and_true]at e0 e1 e2 e3 e4 e5 e6
   subst e0 e1 e2 e3 e4 e5 e6
   refine⟨.mk k n s.data.toList fs t.data.toList ls ps,?_,.mk _ lo hi hn (by show s.data.toList.length<=maxLen;simpa using ws) (by show t.data.toList.length<=maxLen;simpa using wt) (by show fs.length<=_;omega) (by show ls.length<=_;omega) (by show ps.length<=_;omega) (fun f hf=>(ff f hf).1) (fun f hf=>(ff f hf).2) fl (fun p hp=>(fp p hp).1) (fun p hp=>(fp p hp).2)⟩
   have:=Vl.shut (v:=.mk k n s.data.toList fs t.data.toList ls ps) lf ll lp
   unfold NT at this
   rw[Vl.text_mk,Vl.rest_mk,GT,GT]at this
   exact this
end
end
section
open Go.ChangeShapes Go.WideShapes Go.ChangeAt Go.RowKit
section
variable{H:Type}{enc:TypeId×Value->H}{w:World}{base:Nat}{spare:Nat->Bool}{held:Bool}
theorem K4:Try.prog.cellsOf 32=21:=by kernel_rfl
theorem RM:Try.prog.cellsOf 61=22:=by kernel_rfl
theorem RV:Try.prog.cellsOf 76=30:=by kernel_rfl
theorem RJ:Try.prog.cellsOf 65=28:=by kernel_rfl
theorem VI:Try.prog.cellsOf 4=1:=by kernel_rfl
theorem TY:Try.prog.cellsOf 28=1:=by kernel_rfl
theorem U8:Try.prog.cellsOf 29=1:=by kernel_rfl
theorem TP:Try.prog.cellsOf 30=1:=by kernel_rfl
theorem K0{fuel:Nat}{cs:List Value}{x:DataW H×List MemPlace}(h:DataW.trod enc Try.prog w base spare held fuel 27 cs=some x):∃ v:Vl,Fits w (Old w) (vd v) cs/\v.Fine:=by
 obtain⟨v,h1,h2⟩:=U4 fuel cs x h
 exact⟨v,E9 v▸h1,h2⟩
set_option maxHeartbeats 1000000 in
theorem W6:∀ (fuel:Nat) (cs:List Value) (x:DataW H×List MemPlace),DataW.trod enc Try.prog w base spare held fuel 32 cs=some x -> ∃ e:Ed,Fits w (Old w) (ed e) cs/\e.Fine:=by
 intro fuel
 induction fuel using Nat.strongRecOn with
 | ind fuel ih=>
  intro cs x h
  obtain⟨xs,m,rfl,_,hcl,hxl,hf⟩:=DataW.trod_struct Try.underlying32 h
  rw[K4]at hcl
  match cs,hcl,xs,hxl with
  | [c0,a0,a1,a2,a3,a4,a5,a6,b0,b1,b2,b3,b4,b5,b6,c15,c16,c17,c18,c19,c20],_,[y0,y1,y2,y3,y4,y5,y6,y7,y8],_=>
   have h0:DataW.trod enc Try.prog w base spare held m 3 [c0]=some y0:=by simpa[FA]using hf 0 _ rfl
   have h1:DataW.trod enc Try.prog w base spare held m 27 [a0,a1,a2,a3,a4,a5,a6]=some y1:=by simpa[E5]using hf 1 _ rfl
   have h2:DataW.trod enc Try.prog w base spare held m 27 [b0,b1,b2,b3,b4,b5,b6]=some y2:=by simpa[E5]using hf 2 _ rfl
   have h3:DataW.trod enc Try.prog w base spare held m 28 [c15]=some y3:=by simpa[TY]using hf 3 _ rfl
   have h4:DataW.trod enc Try.prog w base spare held m 4 [c16]=some y4:=by simpa[VI]using hf 4 _ rfl
   have h5:DataW.trod enc Try.prog w base spare held m 9 [c17]=some y5:=by simpa[I7]using hf 5 _ rfl
   have h6:DataW.trod enc Try.prog w base spare held m 9 [c18]=some y6:=by simpa[I7]using hf 6 _ rfl
   have h7:DataW.trod enc Try.prog w base spare held m 29 [c19]=some y7:=by simpa[U8]using hf 7 _ rfl
   have h8:DataW.trod enc Try.prog w base spare held m 30 [c20]=some y8:=by simpa[TP]using hf 8 _ rfl
   obtain⟨k,e0,_,wk⟩:=DataW.trod_int Try.underlying3 h0
   obtain⟨vo,fo,Fo⟩:=K0 h1
   obtain⟨vn,fn,Fn⟩:=K0 h2
   obtain⟨r,e4,_⟩:=DataW.trod_bool Try.underlying4 h4
   obtain⟨s,e5,_,ws⟩:=DataW.trod_string Try.underlying9 h5
   obtain⟨t,e6,_,wt⟩:=DataW.trod_string Try.underlying9 h6
   obtain⟨pf,fs,cf,e3,lf,ff,mf,mf'⟩:=FC (f:=CP) (F:=fun p:Int×Ed=>I64 p.1/\p.2.Fine) Try.underlying28 (by omega) RM CQ (fun n hn cs x hx=>by
    obtain⟨zs,q,rfl,_,hzl,hql,hg⟩:=DataW.trod_struct Try.underlying61 hx
    rw[RM]at hzl
    match cs,hzl,zs,hql with
    | d0::ds,hds,[u0,u1],_=>
     have hds:ds.length=21:=by simpa using hds
     have g0:DataW.trod enc Try.prog w base spare held q 3 [d0]=some u0:=by simpa[FA]using hg 0 _ rfl
     have g1:DataW.trod enc Try.prog w base spare held q 32 ds=some u1:=by
      have:=hg 1 _ rfl
      change DataW.trod _ _ _ _ _ _ _ 32 (ds.take (Try.prog.cellsOf 32))=some u1 at this
      rw[K4]at this
      rwa [List.take_of_length_le (by omega)]at this
     obtain⟨b,e,_,wb⟩:=DataW.trod_int Try.underlying3 g0
     obtain⟨v,hv,hV⟩:=ih q (by omega) ds u1 g1
     simp only[List.cons.injEq,and_true]at e
     subst e
     exact⟨(b,v),CO (b,v)▸.cons (.cell _) hv,J5 wb,hV⟩) h3
   obtain⟨ps,ss,cp,e7,ls,fsn,ms,ms'⟩:=FC (f:=BF) (F:=fun p:(Int×Int×Vl)×Ed=>(I64 p.1.1/\I64 p.1.2.1/\p.1.2.2.Fine)/\p.2.Fine) Try.underlying29 (by omega) RV C2 (fun n hn cs x hx=>by
    obtain⟨zs,q,rfl,_,hzl,hql,hg⟩:=DataW.trod_struct Try.underlying76 hx
    rw[RV]at hzl
    match cs,hzl,zs,hql with
    | d0::d1::ds,hds,[u0,u1,u2,u3],_=>
     have hds:ds.length=28:=by simpa using hds
     have g0:DataW.trod enc Try.prog w base spare held q 3 [d0]=some u0:=by simpa[FA]using hg 0 _ rfl
     have g1:DataW.trod enc Try.prog w base spare held q 3 [d1]=some u1:=by simpa[FA]using hg 1 _ rfl
     have g2:DataW.trod enc Try.prog w base spare held q 27 (ds.take 7)=some u2:=by
      have:=hg 2 _ rfl
      change DataW.trod _ _ _ _ _ _ _ 27 (ds.take (Try.prog.cellsOf 27))=some u2 at this
      rwa [E5]at this
     have g3:DataW.trod enc Try.prog w base spare held q 32 (ds.drop 7)=some u3:=by
      have:=hg 3 _ rfl
      change DataW.trod _ _ _ _ _ _ _ 32 ((ds.drop 7).take (Try.prog.cellsOf 32))=some u3 at this
      rw[K4]at this
      rwa [List.take_of_length_le (by rw[List.length_drop];omega)]at this
     obtain⟨b,e,_,wb⟩:=DataW.trod_int Try.underlying3 g0
     obtain⟨c,e',_,wc⟩:=DataW.trod_int Try.underlying3 g1
     obtain⟨z,hz,hZ⟩:=K0 g2
     obtain⟨v,hv,hV⟩:=ih q (by omega) _ u3 g3
     simp only[List.cons.injEq,and_true]at e e'
     subst e e'
     refine⟨((b,c,z),v),?_,⟨J5 wb,J5 wc,hZ⟩,hV⟩
     rw[BX]
     have:=hz.append hv
     rw[List.take_append_drop]at this
     exact .cons (.cell _) (.cons (.cell _) this)) h7
   obtain⟨pk,kk,ck,e8,lk,fk,mk,mk'⟩:=FC (f:=CM) (F:=fun p:Vl×Ed=>p.1.Fine/\p.2.Fine) Try.underlying30 (by omega) RJ CS (fun n hn cs x hx=>by
    obtain⟨zs,q,rfl,_,hzl,hql,hg⟩:=DataW.trod_struct Try.underlying65 hx
    rw[RJ]at hzl
    match zs,hql with
    | [u0,u1],_=>
     have g0:=hg 0 _ rfl
     have g1:=hg 1 _ rfl
     change DataW.trod _ _ _ _ _ _ _ 27 (cs.take (Try.prog.cellsOf 27))=some u0 at g0
     change DataW.trod _ _ _ _ _ _ _ 32 ((cs.drop 7).take (Try.prog.cellsOf 32))=some u1 at g1
     rw[E5]at g0
     rw[K4]at g1
     obtain⟨a,ha,hA⟩:=K0 g0
     obtain⟨b,hb,hB⟩:=ih q (by omega) _ u1 g1
     refine⟨(a,b),?_,hA,hB⟩
     have:=ha.append hb
     rw[List.take_of_length_le (l:=cs.drop 7) (by rw[List.length_drop];omega),List.take_append_drop]at this
     exact CN (a,b)▸this) h8
   simp only[List.cons.injEq,and_true]at e0 e3 e4 e5 e6 e7 e8
   subst e0 e3 e4 e5 e6 e7 e8
   have ls1:Lies w (Old w) (.cell (.string (str s.data.toList))) (.string s):=by rw[GT];exact .cell _
   have ls2:Lies w (Old w) (.cell (.string (str t.data.toList))) (.string t):=by rw[GT];exact .cell _
   refine⟨.mk k vo vn fs r s.data.toList t.data.toList ss kk,.cons (.cell _) (fo.append (fn.append (.cons lf (.cons (.cell _) (.cons ls1 (.cons ls2 (.cons ls (.cons lk (.nil _ _))))))))),
    .mk _ (J5 wk) Fo Fn ⟨by show s.data.toList.length<=maxLen;simpa using ws,by show t.data.toList.length<=maxLen;simpa using wt,by show fs.length<=_;omega,by show ss.length<=_;omega,by show kk.length<=_;omega⟩ (fun p hp=>(ff p hp).1) (fun p hp=>(fsn p hp).1) (fun p hp=>(fk p hp).1) (fun x hx=>?_)⟩
   rcases List.mem_append.1 hx with hx | hx
   ·obtain⟨p,hp,rfl⟩:=List.mem_map.1 hx
    exact(ff p hp).2
   rcases List.mem_append.1 hx with hx | hx
   ·obtain⟨p,hp,rfl⟩:=List.mem_map.1 hx
    exact(fsn p hp).2
   ·obtain⟨p,hp,rfl⟩:=List.mem_map.1 hx
    exact(fk p hp).2
theorem S2{r:Reach}{b0:Nat}{v:Value}{d:DataW H}{ps:List MemPlace}(hval:Value.okWide Try.prog w r b0 32 v)(h:DataW.Trod enc Try.prog w base spare held 32 v d ps):
  ∃ (x:Ed) (cs:List Value),v=.agg cs.toArray/\Fits w (Old w) (ed x) cs/\x.Fine:=by
 obtain⟨cs,rfl,_⟩:=okWide_struct Try.underlying32 hval
 obtain⟨fuel,hf⟩:=h
 obtain⟨x,hx,hF⟩:=W6 fuel _ _ hf
 refine⟨x,cs.toList,by simp,?_,hF⟩
 simpa[Value.cells]using hx
end
end
end Go.Proofs.Ytecfdcdkkgmkpaa
