/- Part 30. Conditions: as each theorem says. -/
import Derived.Test.YtecfdcdkkgmkpaaIO29
import Derived.Test.YtecfdcdkkgmkpaaProg
import Derived.ProofKit
import Derived.OpenShut
import Derived.Carry
import Derived.ChangeSame
set_option maxRecDepth 100000
namespace Go.Proofs.Ytecfdcdkkgmkpaa
open Go.RowKit
theorem T7(e:Ed)(hs:e.Sm)(hr:B3 e=true):EF Try.prog [] 11 [.many (ed e)] (.part (.many (ed (BT e)))):=by
 refine AH 5 Try.func11 rfl rfl rfl fun w D=>?_
 try refine A2 ?_
 refine AF ?_
 refine TF 1000 200 rfl rfl rfl rfl (kn rfl) rfl rfl rfl (fun g=>?_)
 refine AV 2 [.is (.int .i64 0),.is (.int .i64 0),.is (.int .u64 0),.is (.string ⟨#[]⟩),.is (.slice none 0 0),.is (.string ⟨#[]⟩),.is (.slice none 0 0),.is (.slice none 0 0),.is (.int .i64 0),.is (.int .u64 0),.is (.string ⟨#[]⟩),.is (.slice none 0 0),.is (.string ⟨#[]⟩),.is (.slice none 0 0),.is (.slice none 0 0),.is (.slice none 0 0),.is (.bool false),.is (.string ⟨#[]⟩),.is (.string ⟨#[]⟩),.is (.slice none 0 0),.is (.slice none 0 0)] rfl rfl rfl rfl zr_32 (fun w D M V=>⟨rfl,fun j x v h1 h2=>AU _ h1 h2 rfl⟩) rfl rfl rfl rfl ?_
 refine AD ?_
 try refine A2 ?_
 have hc:=RQ e hs hr 32 21 1 [] [] (.slice (some ⟨g,0,none⟩) 1 1) rfl
 refine CP (ds':=[]++(ed e++[])) rfl (by simp) ?_
 refine AF ?_
 refine V4 rfl rfl rfl rfl (by kernel_rfl) hc trivial ⟨rfl,trivial⟩ (fun w D M V a hT=>⟨⟨⟨g,1,1,hT 200 _ rfl,Lies.cell_eq (hT 1 _ rfl)⟩,hT 200 _ rfl⟩,trivial⟩) YT.tidy ?_
 rintro _ _ _ ⟨rfl,rfl,rfl⟩
 refine AD ?_
 try refine A2 ?_
 refine VH (t:=1) (s:=3) rfl rfl ?_
 refine AF ?_
 refine AG (GL (m:=21) (es:=ed (BT e)) rfl (kn rfl) rfl (by rw[List.nil_append,List.append_nil];rfl) (by rw[List.nil_append,List.append_nil];exact Nat.le_refl 21) agg_32 sz_32) ?_
 refine AP rfl rfl rfl (kn rfl) rfl (kn rfl) rfl rfl sz_32 ?_
 refine AD ?_
 try refine A2 ?_
 exact A8 rfl rfl (.cell rfl rfl rfl agg_32 sz_32 rfl (.nil)) (Imp.of_eq rfl) rfl
abbrev vA:Vl:=WQ 1
abbrev vB2:Vl:=.mk 2 0 [98] [] [] [] []
abbrev exI:Ed:=.mk 1 vA vB2 [] false [] [] [] []
abbrev exJ2:Ed:=.mk 1 vB2 vA [] false [] [] [] []
theorem vB2_sm:VSm 80 vB2:=by
 refine⟨.mk _ (by decide) (by decide) (by decide) (show 1<=maxLen by decide) (Nat.zero_le _) (Nat.zero_le _) (Nat.zero_le _) (Nat.zero_le _) (fun _ h=>by cases h) (fun _ h=>by cases h) (fun _ h=>by cases h) (fun _ h=>by cases h) (fun _ h=>by cases h),.mk _ (show 1<=400 by decide) (Nat.zero_le _) (fun _ h=>by cases h),?_⟩
 rw[CB]
 simp[Vl.list,Vl.fields,Vl.pairs,lnodes,fnodes,pnodes]
theorem SE:vright vB2=true:=by simp[vright,fright,lright,pright,vplain,Vl.kind,Vl.num,Vl.text,Vl.fields,Vl.rest,Vl.list,Vl.pairs]
theorem S2:CQ vA vB2=false:=by
 unfold CQ
 rw[F9]
 rfl
theorem UW:BT exI=exJ2:=by rw[CL];rfl
theorem MB:B3 exI=true:=by rw[Q4,QH,SE,S2];rfl
set_option maxHeartbeats 1000000 in
theorem R7:EF Try.prog [] 6 [] (.part (tP true)):=by
 have zA:VSm 80 vA:=OI 1 1 (by decide) (by decide) (by decide)
 have sA:=zA.short (by decide)
 have sB:=vB2_sm.short (by decide)
 have hI:exI.Sm:=Q5 1 _ _ ⟨by decide,by decide⟩ zA vB2_sm
 have hJ:exJ2.Sm:=Q5 1 _ _ ⟨by decide,by decide⟩ vB2_sm zA
 have hi:=T7 exI hI MB
 have hJr:=EQ exI MB
 rw[UW]at hi hJr
 refine AH 29 Try.func6 rfl rfl rfl fun w D=>?_
 try refine A2 ?_
 refine A1 (AC rfl rfl rfl rfl rfl .nil) ?_
 try refine A2 ?_
 refine AF ?_
 refine AG (BV (ds:=[_,_,_,.row 8 0 [],_,.row 7 0 [],.row 14 0 []]) [(0,_),(1,_)] rfl ⟨rfl,(kn rfl),⟨rfl,(kn rfl),trivial⟩⟩ rfl pl_27 zr_27 (fun w D=>.cons (.cell _) (.cons (.cell _) (.cons (.cell _) (.cons (.none _ _ _) (.cons (.cell _) (.cons (.none _ _ _) (.cons (.none _ _ _) (.nil _ _)))))))) rfl) ?_
 refine AG (BV (ds:=[_,_,_,.row 8 0 [],_,.row 7 0 [],.row 14 0 []]) [(0,_),(2,_)] rfl ⟨rfl,(kn rfl),⟨rfl,(kn rfl),trivial⟩⟩ rfl pl_27 zr_27 (fun w D=>.cons (.cell _) (.cons (.cell _) (.cons (.cell _) (.cons (.none _ _ _) (.cons (.cell _) (.cons (.none _ _ _) (.cons (.none _ _ _) (.nil _ _)))))))) rfl) ?_
 refine AV 1 [.is (.int .i64 0),.is (.int .u64 0),.is (.string ⟨#[]⟩),.is (.slice none 0 0),.is (.string ⟨#[]⟩),.is (.slice none 0 0),.is (.slice none 0 0)] rfl rfl rfl rfl zr_27 (fun w D M V=>⟨rfl,fun j x v h1 h2=>AU _ h1 h2 rfl⟩) rfl rfl rfl rfl ?_
 refine AV 2 [.is (.int .i64 0),.is (.int .u64 0),.is (.string ⟨#[]⟩),.is (.slice none 0 0),.is (.string ⟨#[]⟩),.is (.slice none 0 0),.is (.slice none 0 0)] rfl rfl rfl rfl zr_27 (fun w D M V=>⟨rfl,fun j x v h1 h2=>AU _ h1 h2 rfl⟩) rfl rfl rfl rfl ?_
 refine AP rfl rfl rfl (kn rfl) rfl (kn rfl) rfl rfl sz_27 ?_
 refine AP rfl rfl rfl (kn rfl) rfl (kn rfl) rfl rfl sz_27 ?_
 refine AD ?_
 try refine A2 ?_
 refine AF ?_
 refine AG (A7 (ds:=[_,_,_,_,_,_,_]) 7 rfl (kn rfl) rfl rfl agg_27 sz_27 rfl) ?_
 refine AG (A7 (ds:=[_,_,_,_,_,_,_]) 7 rfl (kn rfl) rfl rfl agg_27 sz_27 rfl) ?_
 refine AG (BV (ds:=[_,_,_,_,_,_,_,_,_,_,_,_,_,_,_,.row 22 0 [],_,_,_,.row 30 0 [],.row 28 0 []]) [(0,_),(1,_),(2,_)] rfl ⟨rfl,(kn rfl),⟨rfl,(kn rfl),⟨rfl,(kn rfl),trivial⟩⟩⟩ rfl pl_32 zr_32 (fun w D=>.cons (.cell _) (.cons (.cell _) (.cons (.cell _) (.cons (.cell _) (.cons (.cell _) (.cons (.cell _) (.cons (.cell _) (.cons (.cell _) (.cons (.cell _) (.cons (.cell _) (.cons (.cell _) (.cons (.cell _) (.cons (.cell _) (.cons (.cell _) (.cons (.cell _) (.cons (.none _ _ _) (.cons (.cell _) (.cons (.cell _) (.cons (.cell _) (.cons (.none _ _ _) (.cons (.none _ _ _) (.nil _ _)))))))))))))))))))))) rfl) ?_
 refine AG (AE rfl (by kernel_rfl) (hi) ⟨(kn rfl),trivial⟩) ?_
 refine AV 3 [.is (.int .i64 0),.is (.int .i64 0),.is (.int .u64 0),.is (.string ⟨#[]⟩),.is (.slice none 0 0),.is (.string ⟨#[]⟩),.is (.slice none 0 0),.is (.slice none 0 0),.is (.int .i64 0),.is (.int .u64 0),.is (.string ⟨#[]⟩),.is (.slice none 0 0),.is (.string ⟨#[]⟩),.is (.slice none 0 0),.is (.slice none 0 0),.is (.slice none 0 0),.is (.bool false),.is (.string ⟨#[]⟩),.is (.string ⟨#[]⟩),.is (.slice none 0 0),.is (.slice none 0 0)] rfl rfl rfl rfl zr_32 (fun w D M V=>⟨rfl,fun j x v h1 h2=>AU _ h1 h2 rfl⟩) rfl rfl rfl rfl ?_
 refine AP rfl rfl rfl (kn rfl) rfl (kn rfl) rfl rfl sz_32 ?_
 refine AD ?_
 try refine A2 ?_
 refine A1 (A4 rfl rfl rfl (A0 rfl (kn rfl) off_32_0) (A4 rfl rfl rfl (A5 rfl (kn rfl) rfl rfl one_3) (A4 rfl rfl rfl (A6 rfl (kn rfl) (kn rfl) AO) (A9 rfl rfl rfl rfl rfl (Walk.gd _ rfl rfl rfl (fun h=>A0 rfl (kn rfl) off_32_1) (Walk.gd _ rfl rfl rfl (fun h=>A7 (ds:=[_,_,_,_,_,_,_]) 7 rfl (A3 rfl h) rfl rfl agg_27 sz_27 rfl) (Walk.gd _ rfl rfl rfl (fun h=>A7 (ds:=[_,_,_,_,_,_,_]) 7 rfl (kn rfl) rfl rfl agg_27 sz_27 rfl) (Walk.gd _ rfl rfl rfl (fun h=>AE rfl (by kernel_rfl) (KX vB2 vB2 sB sB) ⟨(A3 rfl h),⟨(A3 rfl h),trivial⟩⟩) (A4 rfl rfl rfl (AQ rfl (kn rfl) (fun hb=>A3 rfl hb)) (A9 rfl rfl rfl rfl rfl (Walk.gd _ rfl rfl rfl (fun h=>A0 rfl (kn rfl) off_32_2) (Walk.gd _ rfl rfl rfl (fun h=>A7 (ds:=[_,_,_,_,_,_,_]) 7 rfl (A3 rfl h) rfl rfl agg_27 sz_27 rfl) (Walk.gd _ rfl rfl rfl (fun h=>A7 (ds:=[_,_,_,_,_,_,_]) 7 rfl (kn rfl) rfl rfl agg_27 sz_27 rfl) (Walk.gd _ rfl rfl rfl (fun h=>AE rfl (by kernel_rfl) (KX vA vA sA sA) ⟨(A3 rfl h),⟨(A3 rfl h),trivial⟩⟩) (A4 rfl rfl rfl (AQ rfl (kn rfl) (fun hb=>A3 rfl hb)) (A9 rfl rfl rfl rfl rfl (Walk.gd _ rfl rfl rfl (fun h=>A7 (ds:=[_,_,_,_,_,_,_,_,_,_,_,_,_,_,_,_,_,_,_,_,_]) 21 rfl (kn rfl) rfl rfl agg_32 sz_32 rfl) (Walk.gd _ rfl rfl rfl (fun h=>AE rfl (by kernel_rfl) (MF exJ2 hJ) ⟨(A3 rfl h),trivial⟩) (A4 rfl rfl rfl (AQ rfl (kn rfl) (fun hb=>A3 rfl hb)) (AC rfl rfl rfl rfl rfl .nil)))))))))))))))))))) ?_
 try refine A2 ?_
 exact A8 rfl rfl (.tmp (kn rfl) (.nil)) (B4 (by rw[hJr];simp[MM,Ed.kind])) rfl
theorem X2{x:Bool}(h:(!x)=true):x=false:=by cases x<;>first | rfl | cases h
abbrev eS(l:List Stp):Ed:=.mk 3 DJ DJ [] false [] [] l []
theorem WZ{e:Ed}(h:e.Sm):(eS e.steps).Sm:=by
 have z0:VSm 80 DJ:=OI 0 0 (by decide) (by decide) (by decide)
 obtain⟨_,_,_,_,_,_,h7,_⟩:=h.ok.all
 refine⟨.mk _ ⟨show(-9223372036854775808:Int)<=3 by decide,show(3:Int)<9223372036854775808 by decide⟩ z0 z0 (Nat.zero_le _) (Nat.zero_le _) (fun _ h=>by cases h) h7 (fun _ h=>by cases h) fun x hx=>?_,?_⟩
 ·rcases List.mem_append.1 hx with hx | hx
  ·cases hx
  rcases List.mem_append.1 hx with hx | hx
  ·obtain⟨p,hp,rfl⟩:=List.mem_map.1 hx
   exact h.ok.kid (Ed.kid_s hp)
  ·cases hx
 ·have h1:=h.count
  rw[DF]at h1 ⊢
  show 1+(0+(e.steps.map fun p=>ecount p.2).sum+0)<=80
  omega
theorem T3(e:Ed)(hs:e.Sm)(hr:B3 e=true):EF Try.prog [] 12 [.one (.row 30 e.steps.length (e.steps.flatMap B5))] (.part (.one (.row 30 (BT e).steps.length ((BT e).steps.flatMap B5)))):=by
 have hl:=hs.lens
 have hk:=E0 hr
 rw[DZ]
 exact MK e.steps (by omega) (EY hr).2.1 (fun s h=>RQ _ (hs.kid (Ed.kid_s h)) (hk _ (Ed.kid_s h))) (fun s h=>EQ _ (hk _ (Ed.kid_s h)))
set_option maxHeartbeats 4000000 in
theorem WJ(e:Ed)(he:e.Fine):EF Try.prog [] 3 [.many (ed e)] (.part (tP true)):=by
 refine AH 44 Try.func3 rfl rfl rfl fun w D=>?_
 try refine A2 ?_
 refine AF ?_
 refine BX 1 rfl rfl rfl rfl (kn rfl) rfl rfl rfl rfl ?_
 refine BY ?_
 refine AD ?_
 try refine A2 ?_
 refine A1 (A4 rfl rfl rfl (AE rfl (by kernel_rfl) (R7) trivial) (A4 rfl rfl rfl (D1 rfl (kn rfl)) .nil)) ?_
 try refine A2 ?_
 refine PG ?_
 try refine A2 ?_
 refine A1 (A4 rfl rfl rfl (A7 (ds:=[_,_,_,_,_,_,_,_,_,_,_,_,_,_,_,_,_,_,_,_,_]) 21 rfl (kn rfl) rfl rfl agg_32 sz_32 rfl) (A4 rfl rfl rfl (AE rfl (by kernel_rfl) (VW e he) ⟨(kn rfl),⟨(kn rfl),trivial⟩⟩) (A9 rfl rfl rfl rfl rfl (Walk.gd _ rfl rfl rfl (fun h=>A7 (ds:=[_,_,_,_,_,_,_,_,_,_,_,_,_,_,_,_,_,_,_,_,_]) 21 rfl (kn rfl) rfl rfl agg_32 sz_32 rfl) (Walk.gd _ rfl rfl rfl (fun h=>AE rfl (by kernel_rfl) (MF e (RY he (X2 h))) ⟨(A3 rfl h),trivial⟩) (Walk.gd _ rfl rfl rfl (fun h=>D1 rfl (A3 rfl h)) (A4 rfl rfl rfl (DI rfl (kn rfl) (fun hb=>A3 rfl hb)) .nil))))))) ?_
 try refine A2 ?_
 refine AA rfl (fun h=>?_) (fun h=>?_)
 ·try refine A2 ?_
  refine A1 (AC rfl rfl rfl rfl rfl .nil) ?_
  try refine A2 ?_
  exact A8 rfl rfl (.tmp (kn rfl) (.nil)) (Imp.of_eq rfl) rfl
 simp only[Bool.or_eq_false_iff,Bool.not_eq_false']at h
 obtain⟨g1,g2⟩:=h
 have hs:=RY he g1
 have hse:=V6 hs
 have hre:=EQ e g2
 have hinv:=T7 e hs g2
 have hsS:=WZ hse
 have hst:=T3 e hs g2
 try refine A2 ?_
 refine AF ?_
 refine AG (A7 (ds:=[_,_,_,_,_,_,_,_,_,_,_,_,_,_,_,_,_,_,_,_,_]) 21 rfl (kn rfl) rfl rfl agg_32 sz_32 rfl) ?_
 refine AG (AE rfl (by kernel_rfl) (N8 e hs) ⟨(kn rfl),trivial⟩) ?_
 refine AV 3 [.is (.int .i64 0),.is (.int .i64 0),.is (.int .u64 0),.is (.string ⟨#[]⟩),.is (.slice none 0 0),.is (.string ⟨#[]⟩),.is (.slice none 0 0),.is (.slice none 0 0),.is (.int .i64 0),.is (.int .u64 0),.is (.string ⟨#[]⟩),.is (.slice none 0 0),.is (.string ⟨#[]⟩),.is (.slice none 0 0),.is (.slice none 0 0),.is (.slice none 0 0),.is (.bool false),.is (.string ⟨#[]⟩),.is (.string ⟨#[]⟩),.is (.slice none 0 0),.is (.slice none 0 0)] rfl rfl rfl rfl zr_45 (fun w D M V=>⟨rfl,fun j x v h1 h2=>AU _ h1 h2 rfl⟩) rfl rfl rfl rfl ?_
 refine AP rfl rfl rfl (kn rfl) rfl (kn rfl) rfl rfl sz_45 ?_
 refine AD ?_
 try refine A2 ?_
 refine AF ?_
 refine AG (A7 (ds:=[_,_,_,_,_,_,_,_,_,_,_,_,_,_,_,_,_,_,_,_,_]) 21 rfl (kn rfl) rfl rfl agg_45 sz_45 rfl) ?_
 refine AG (AE rfl (by kernel_rfl) (VO e hs g2) ⟨(kn rfl),trivial⟩) ?_
 refine AV 4 [.is (.int .i64 0),.is (.int .i64 0),.is (.int .u64 0),.is (.string ⟨#[]⟩),.is (.slice none 0 0),.is (.string ⟨#[]⟩),.is (.slice none 0 0),.is (.slice none 0 0),.is (.int .i64 0),.is (.int .u64 0),.is (.string ⟨#[]⟩),.is (.slice none 0 0),.is (.string ⟨#[]⟩),.is (.slice none 0 0),.is (.slice none 0 0),.is (.slice none 0 0),.is (.bool false),.is (.string ⟨#[]⟩),.is (.string ⟨#[]⟩),.is (.slice none 0 0),.is (.slice none 0 0)] rfl rfl rfl rfl zr_45 (fun w D M V=>⟨rfl,fun j x v h1 h2=>AU _ h1 h2 rfl⟩) rfl rfl rfl rfl ?_
 refine AP rfl rfl rfl (kn rfl) rfl (kn rfl) rfl rfl sz_45 ?_
 refine AD ?_
 try refine A2 ?_
 refine AF ?_
 refine AG (A7 (ds:=[_,_,_,_,_,_,_,_,_,_,_,_,_,_,_,_,_,_,_,_,_]) 21 rfl (kn rfl) rfl rfl agg_32 sz_32 rfl) ?_
 refine AG (AE rfl (by kernel_rfl) (hinv) ⟨(kn rfl),trivial⟩) ?_
 refine AG (AE rfl (by kernel_rfl) (N8 (BT e) hse) ⟨(kn rfl),trivial⟩) ?_
 refine AV 5 [.is (.int .i64 0),.is (.int .i64 0),.is (.int .u64 0),.is (.string ⟨#[]⟩),.is (.slice none 0 0),.is (.string ⟨#[]⟩),.is (.slice none 0 0),.is (.slice none 0 0),.is (.int .i64 0),.is (.int .u64 0),.is (.string ⟨#[]⟩),.is (.slice none 0 0),.is (.string ⟨#[]⟩),.is (.slice none 0 0),.is (.slice none 0 0),.is (.slice none 0 0),.is (.bool false),.is (.string ⟨#[]⟩),.is (.string ⟨#[]⟩),.is (.slice none 0 0),.is (.slice none 0 0)] rfl rfl rfl rfl zr_45 (fun w D M V=>⟨rfl,fun j x v h1 h2=>AU _ h1 h2 rfl⟩) rfl rfl rfl rfl ?_
 refine AP rfl rfl rfl (kn rfl) rfl (kn rfl) rfl rfl sz_45 ?_
 refine AD ?_
 try refine A2 ?_
 refine AF ?_
 refine AG (A0 rfl (kn rfl) off_32_7) ?_
 refine AG (A5 rfl (kn rfl) rfl rfl one_29) ?_
 refine AG (AE rfl (by kernel_rfl) (hst) ⟨(kn rfl),trivial⟩) ?_
 refine AG (BV (ds:=[_,_,_,_,.row 8 0 [],_,.row 7 0 [],.row 14 0 [],_,_,_,.row 8 0 [],_,.row 7 0 [],.row 14 0 [],.row 22 0 [],_,_,_,_,.row 28 0 []]) [(0,_),(7,_)] rfl ⟨rfl,(kn rfl),⟨rfl,(kn rfl),trivial⟩⟩ rfl pl_32 zr_32 (fun w D=>.cons (.cell _) (.cons (.cell _) (.cons (.cell _) (.cons (.cell _) (.cons (.none _ _ _) (.cons (.cell _) (.cons (.none _ _ _) (.cons (.none _ _ _) (.cons (.cell _) (.cons (.cell _) (.cons (.cell _) (.cons (.none _ _ _) (.cons (.cell _) (.cons (.none _ _ _) (.cons (.none _ _ _) (.cons (.none _ _ _) (.cons (.cell _) (.cons (.cell _) (.cons (.cell _) (.cons (.cell _) (.cons (.none _ _ _) (.nil _ _)))))))))))))))))))))) rfl) ?_
 refine AG (AE rfl (by kernel_rfl) (N8 (eS (BT e).steps) hsS) ⟨(kn rfl),trivial⟩) ?_
 refine AV 6 [.is (.int .i64 0),.is (.int .i64 0),.is (.int .u64 0),.is (.string ⟨#[]⟩),.is (.slice none 0 0),.is (.string ⟨#[]⟩),.is (.slice none 0 0),.is (.slice none 0 0),.is (.int .i64 0),.is (.int .u64 0),.is (.string ⟨#[]⟩),.is (.slice none 0 0),.is (.string ⟨#[]⟩),.is (.slice none 0 0),.is (.slice none 0 0),.is (.slice none 0 0),.is (.bool false),.is (.string ⟨#[]⟩),.is (.string ⟨#[]⟩),.is (.slice none 0 0),.is (.slice none 0 0)] rfl rfl rfl rfl zr_45 (fun w D M V=>⟨rfl,fun j x v h1 h2=>AU _ h1 h2 rfl⟩) rfl rfl rfl rfl ?_
 refine AP rfl rfl rfl (kn rfl) rfl (kn rfl) rfl rfl sz_45 ?_
 refine AD ?_
 try refine A2 ?_
 refine CT C5 (by kernel_rfl) (A4 rfl rfl rfl (A7 (ds:=[_,_,_,_,_,_,_,_,_,_,_,_,_,_,_,_,_,_,_,_,_]) 21 rfl (kn rfl) rfl rfl agg_45 sz_45 rfl) (A4 rfl rfl rfl (A7 (ds:=[_,_,_,_,_,_,_,_,_,_,_,_,_,_,_,_,_,_,_,_,_]) 21 rfl (kn rfl) rfl rfl agg_45 sz_45 rfl) (A4 rfl rfl rfl (AE rfl (by kernel_rfl) (RB (BT e) hse (BT e) hse) ⟨(kn rfl),⟨(kn rfl),trivial⟩⟩) (A9 rfl rfl rfl rfl rfl (Walk.gd _ rfl rfl rfl (fun h=>A7 (ds:=[_,_,_,_,_,_,_,_,_,_,_,_,_,_,_,_,_,_,_,_,_]) 21 rfl (kn rfl) rfl rfl agg_45 sz_45 rfl) (Walk.gd _ rfl rfl rfl (fun h=>A0 rfl (kn rfl) off_45_7) (Walk.gd _ rfl rfl rfl (fun h=>A5 rfl (A3 rfl h) rfl rfl one_42) (Walk.gd _ rfl rfl rfl (fun h=>BV (ds:=[_,_,_,_,.row 8 0 [],_,.row 7 0 [],.row 14 0 [],_,_,_,.row 8 0 [],_,.row 7 0 [],.row 14 0 [],.row 22 0 [],_,_,_,_,.row 28 0 []]) [(0,_),(7,_)] rfl ⟨rfl,(kn rfl),⟨rfl,(A3 rfl h),trivial⟩⟩ rfl pl_45 zr_45 (fun w D=>.cons (.cell _) (.cons (.cell _) (.cons (.cell _) (.cons (.cell _) (.cons (.none _ _ _) (.cons (.cell _) (.cons (.none _ _ _) (.cons (.none _ _ _) (.cons (.cell _) (.cons (.cell _) (.cons (.cell _) (.cons (.none _ _ _) (.cons (.cell _) (.cons (.none _ _ _) (.cons (.none _ _ _) (.cons (.none _ _ _) (.cons (.cell _) (.cons (.cell _) (.cons (.cell _) (.cons (.cell _) (.cons (.none _ _ _) (.nil _ _)))))))))))))))))))))) rfl) (Walk.gd _ rfl rfl rfl (fun h=>AE rfl (by kernel_rfl) (RB (eS (BT e).steps) hsS (eS (BT e).steps) hsS) ⟨(A3 rfl h),⟨(A3 rfl h),trivial⟩⟩) (A4 rfl rfl rfl (AQ rfl (kn rfl) (fun hb=>A3 rfl hb)) (A9 rfl rfl rfl rfl rfl (Walk.gd _ rfl rfl rfl (fun h=>A7 (ds:=[_,_,_,_,_,_,_,_,_,_,_,_,_,_,_,_,_,_,_,_,_]) 21 rfl (kn rfl) rfl rfl agg_32 sz_32 rfl) (Walk.gd _ rfl rfl rfl (fun h=>AE rfl (by kernel_rfl) (N8 e hs) ⟨(A3 rfl h),trivial⟩) (Walk.gd _ rfl rfl rfl (fun h=>A7 (ds:=[_,_,_,_,_,_,_,_,_,_,_,_,_,_,_,_,_,_,_,_,_]) 21 rfl (kn rfl) rfl rfl agg_45 sz_45 rfl) (Walk.gd _ rfl rfl rfl (fun h=>AE rfl (by kernel_rfl) (RB e hs e hs) ⟨(A3 rfl h),⟨(A3 rfl h),trivial⟩⟩) (A4 rfl rfl rfl (AQ rfl (kn rfl) (fun hb=>A3 rfl hb)) (AC rfl rfl rfl rfl rfl .nil))))))))))))))))) ?_
 try refine A2 ?_
 exact A8 rfl rfl (.tmp (kn rfl) (.nil)) (B4 (by simp[U5])) rfl
section
open Go.ChangeShapes Go.WideShapes Go.ChangeAt Go.RowKit
section
variable{H:Type}{enc:TypeId×Value->H}{P:Program}
theorem U4{x:Int}(h:(Lit.int .u64 x).wf=true):∃ n:Nat,x=(n:Int)/\n<18446744073709551616:=by
 have h1:IntKind.u64.min=0:=rfl
 have h2:IntKind.u64.max=18446744073709551615:=rfl
 simp only[Lit.wf,Bool.and_eq_true,decide_eq_true_eq]at h
 exact⟨x.toNat,by omega,by omega⟩
theorem J8{x:Int}(h:(Lit.int .i64 x).wf=true):-9223372036854775808<=x/\x<9223372036854775808:=by
 have h1:IntKind.i64.min = -9223372036854775808:=rfl
 have h2:IntKind.i64.max=9223372036854775807:=rfl
 simp only[Lit.wf,Bool.and_eq_true,decide_eq_true_eq]at h
 omega
theorem IY(hl:laidOutB P=true){W W':World}(hb:Below W.heap.size W W'){sp:Nat->Bool}:∀ {ts:List TypeId} {vs:List Value} {ds:List (DataW H)} {ps:List MemPlace},
  (ts.all fun t=>P.readableRec t&&decide (t<P.types.size))=true->DataW.TrodAll enc P W 0 (fun _=>true) true ts vs ds ps->(∀ p∈ps,p.block<W.heap.size)->(∀ p∈ps,sp p.block=true) ->
  DataW.TrodAll enc P W' 0 sp true ts vs ds ps
 | [],_,_,_,_,h,_,_=>by
  obtain⟨rfl,rfl,rfl⟩:=trodAll_nil h
  exact trodAll_mk0
 | t::ts,_,_,_,ht,h,hlt,hsp=>by
  simp only[List.all_cons,Bool.and_eq_true,decide_eq_true_eq]at ht
  obtain⟨v,vs,d,ds,p,q,rfl,rfl,rfl,h0,hr⟩:=trodAll_cons h
  exact trodAll_cons_mk (WideElems.Trod_stays hl ht.1.1 ht.1.2 h0 (fun x hx=>hb.same (hlt x (List.mem_append_left _ hx))) (fun x hx=>hsp x (List.mem_append_left _ hx)))
   (IY hl hb ht.2 hr (fun x hx=>hlt x (List.mem_append_right _ hx)) (fun x hx=>hsp x (List.mem_append_right _ hx)))
theorem TQ{f:Func}{s:ChangeSpec}{W W':World}{args:Array Value}{ds:List (DataW H)}{before:List MemPlace}
  (hl:laidOutB P=true) (ht:(f.params.toList.all fun t=>P.readableRec t&&decide (t<P.types.size))=true)
  (hvars:s.vars=[]) (hs:s.fn H (ds++[])={ results:=[.lit (.bool true)],args:=ds }) {tb:TypeId} (hres:f.resultTypes = #[tb]) (hbool:P.underlying tb=some .bool)
  (hW:DataW.Whole enc P f.params.toList s.vars false W args.toList ds [] before)
  (hA:DataW.TrodAll enc P W 0 (fun _=>true) true f.params.toList args.toList ds before) (hb:Below W.heap.size W W'):
  s.post enc P f false true false false W args (.bool true) W':=by
 have hlt:∀ p∈before,p.block<W.heap.size:=fun p hp=>hW.lt p hp
 have e1:(Value.bool true).resultList f.resultTypes.size=[Value.bool true]:=by rw[hres];rfl
 refine⟨ds,[],before,[],before,[],hW,?_,?_,?_,World.keptBut_mono (fun p hp=>⟨hp,by simpa using hp⟩) (hb.frame (· ∈ before)),fun h=>by cases h⟩
 ·rw[hs,e1,hres]
  exact trodAll_mk1 (shut_bool hbool _)
 ·rw[hs]
  exact IY hl hb ht hA hlt (fun p hp=>by simpa using hlt p hp)
 ·rw[hs,hvars]
  rfl
end
end
section
open Go.ChangeShapes Go.WideShapes Go.ChangeAt Go.RowKit
theorem HB(s:ByteArray):str s.data.toList=s:=by
 unfold str
 simp
section
variable{H:Type}{enc:TypeId×Value->H}{w:World}{base:Nat}{spare:Nat->Bool}{held:Bool}
theorem E9:Try.prog.cellsOf 27=7:=by kernel_rfl
theorem P1:Try.prog.cellsOf 97=8:=by kernel_rfl
theorem OY:Try.prog.cellsOf 101=14:=by kernel_rfl
theorem FQ:Try.prog.cellsOf 3=1:=by kernel_rfl
theorem S3:Try.prog.cellsOf 22=1:=by kernel_rfl
theorem IL:Try.prog.cellsOf 9=1:=by kernel_rfl
theorem VX:Try.prog.cellsOf 23=1:=by kernel_rfl
theorem UU:Try.prog.cellsOf 24=1:=by kernel_rfl
theorem VE:Try.prog.cellsOf 25=1:=by kernel_rfl
set_option maxHeartbeats 1000000 in
theorem TO:∀ (fuel:Nat) (cs:List Value) (x:DataW H×List MemPlace),DataW.trod enc Try.prog w base spare held fuel 27 cs=some x -> ∃ v:Vl,Fits w (Old w) v.dats cs/\v.Fine:=by
 intro fuel
 induction fuel using Nat.strongRecOn with
 | ind fuel ih=>
  intro cs x h
  obtain⟨xs,m,rfl,_,hcl,hxl,hf⟩:=DataW.trod_struct Try.underlying27 h
  rw[E9]at hcl
  match cs,hcl,xs,hxl with
  | [c0,c1,c2,c3,c4,c5,c6],_,[y0,y1,y2,y3,y4,y5,y6],_=>
   have h0:DataW.trod enc Try.prog w base spare held m 3 [c0]=some y0:=by simpa[FQ]using hf 0 _ rfl
   have h1:DataW.trod enc Try.prog w base spare held m 22 [c1]=some y1:=by simpa[S3]using hf 1 _ rfl
   have h2:DataW.trod enc Try.prog w base spare held m 9 [c2]=some y2:=by simpa[IL]using hf 2 _ rfl
   have h3:DataW.trod enc Try.prog w base spare held m 23 [c3]=some y3:=by simpa[VX]using hf 3 _ rfl
   have h4:DataW.trod enc Try.prog w base spare held m 9 [c4]=some y4:=by simpa[IL]using hf 4 _ rfl
   have h5:DataW.trod enc Try.prog w base spare held m 24 [c5]=some y5:=by simpa[UU]using hf 5 _ rfl
   have h6:DataW.trod enc Try.prog w base spare held m 25 [c6]=some y6:=by simpa[VE]using hf 6 _ rfl
   obtain⟨k,e0,_,wk⟩:=DataW.trod_int Try.underlying3 h0
   obtain⟨z,e1,_,wz⟩:=DataW.trod_int Try.underlying22 h1
   obtain⟨s,e2,_,ws⟩:=DataW.trod_string Try.underlying9 h2
   obtain⟨t,e4,_,wt⟩:=DataW.trod_string Try.underlying9 h4
   obtain⟨n,rfl,hn⟩:=U4 wz
   obtain⟨lo,hi⟩:=J8 wk
   obtain⟨pf,fs,cf,e3,lf,ff,mf,mf'⟩:=FP (f:=fieldDats) (F:=fun f:Int×Vl=>(-9223372036854775808<=f.1/\f.1<9223372036854775808)/\f.2.Fine) Try.underlying23 (by omega) P1 B9 (fun n hn cs x hx=>by
    obtain⟨zs,q,rfl,_,hzl,hql,hg⟩:=DataW.trod_struct Try.underlying97 hx
    rw[P1]at hzl
    match cs,hzl,zs,hql with
    | d0::ds,hds,[u0,u1],_=>
     have hds:ds.length=7:=by simpa using hds
     have g0:DataW.trod enc Try.prog w base spare held q 3 [d0]=some u0:=by simpa[FQ]using hg 0 _ rfl
     have g1:DataW.trod enc Try.prog w base spare held q 27 ds=some u1:=by
      have:=hg 1 _ rfl
      change DataW.trod _ _ _ _ _ _ _ 27 (ds.take (Try.prog.cellsOf 27))=some u1 at this
      rw[E9]at this
      rwa [List.take_of_length_le (by omega)]at this
     obtain⟨b,e,_,wb⟩:=DataW.trod_int Try.underlying3 g0
     obtain⟨v,hv,hV⟩:=ih q (by omega) ds u1 g1
     simp only[List.cons.injEq,and_true]at e
     subst e
     exact⟨(b,v),.cons (.cell _) hv,J8 wb,hV⟩) h3
   obtain⟨pl,ls,cl,e5,ll,fl,ml,ml'⟩:=FP (f:=Vl.dats) (F:=Vl.Fine) Try.underlying24 (by omega) E9 Vl.dats_len (fun n hn cs x hx=>ih n (by omega) cs x hx) h5
   obtain⟨pp,ps,cp,e6,lp,fp,mp,mp'⟩:=FP (f:=pairDats) (F:=fun p:Vl×Vl=>p.1.Fine/\p.2.Fine) Try.underlying25 (by omega) OY BO (fun n hn cs x hx=>by
    obtain⟨zs,q,rfl,_,hzl,hql,hg⟩:=DataW.trod_struct Try.underlying101 hx
    rw[OY]at hzl
    match zs,hql with
    | [u0,u1],_=>
     have g0:=hg 0 _ rfl
     have g1:=hg 1 _ rfl
     change DataW.trod _ _ _ _ _ _ _ 27 (cs.take (Try.prog.cellsOf 27))=some u0 at g0
     change DataW.trod _ _ _ _ _ _ _ 27 ((cs.drop 7).take (Try.prog.cellsOf 27))=some u1 at g1
     rw[E9]at g0 g1
     obtain⟨a,ha,hA⟩:=ih q (by omega) _ u0 g0
     obtain⟨b,hb,hB⟩:=ih q (by omega) _ u1 g1
     refine⟨(a,b),?_,hA,hB⟩
     have:=ha.append hb
     rw[List.take_of_length_le (l:=cs.drop 7) (by rw[List.length_drop];omega),List.take_append_drop]at this
     exact this) h6
   simp only[List.cons.injEq,and_true]at e0 e1 e2 e3 e4 e5 e6
   subst e0 e1 e2 e3 e4 e5 e6
   refine⟨.mk k n s.data.toList fs t.data.toList ls ps,?_,.mk _ lo hi hn (by show s.data.toList.length<=maxLen;simpa using ws) (by show t.data.toList.length<=maxLen;simpa using wt) (by show fs.length<=_;omega) (by show ls.length<=_;omega) (by show ps.length<=_;omega) (fun f hf=>(ff f hf).1) (fun f hf=>(ff f hf).2) fl (fun p hp=>(fp p hp).1) (fun p hp=>(fp p hp).2)⟩
   have:=Vl.shut (v:=.mk k n s.data.toList fs t.data.toList ls ps) lf ll lp
   unfold NE at this
   rw[Vl.text_mk,Vl.rest_mk,HB,HB]at this
   exact this
end
end
section
open Go.ChangeShapes Go.WideShapes Go.ChangeAt Go.RowKit
section
variable{H:Type}{enc:TypeId×Value->H}{w:World}{base:Nat}{spare:Nat->Bool}{held:Bool}
theorem KA:Try.prog.cellsOf 32=21:=by kernel_rfl
theorem RW:Try.prog.cellsOf 61=22:=by kernel_rfl
theorem RO:Try.prog.cellsOf 76=30:=by kernel_rfl
theorem RX:Try.prog.cellsOf 65=28:=by kernel_rfl
theorem VP:Try.prog.cellsOf 4=1:=by kernel_rfl
theorem U7:Try.prog.cellsOf 28=1:=by kernel_rfl
theorem TX:Try.prog.cellsOf 29=1:=by kernel_rfl
theorem UH:Try.prog.cellsOf 30=1:=by kernel_rfl
theorem KB{fuel:Nat}{cs:List Value}{x:DataW H×List MemPlace}(h:DataW.trod enc Try.prog w base spare held fuel 27 cs=some x):∃ v:Vl,Fits w (Old w) (vd v) cs/\v.Fine:=by
 obtain⟨v,h1,h2⟩:=TO fuel cs x h
 exact⟨v,DP v▸h1,h2⟩
set_option maxHeartbeats 1000000 in
theorem VC:∀ (fuel:Nat) (cs:List Value) (x:DataW H×List MemPlace),DataW.trod enc Try.prog w base spare held fuel 32 cs=some x -> ∃ e:Ed,Fits w (Old w) (ed e) cs/\e.Fine:=by
 intro fuel
 induction fuel using Nat.strongRecOn with
 | ind fuel ih=>
  intro cs x h
  obtain⟨xs,m,rfl,_,hcl,hxl,hf⟩:=DataW.trod_struct Try.underlying32 h
  rw[KA]at hcl
  match cs,hcl,xs,hxl with
  | [c0,a0,a1,a2,a3,a4,a5,a6,b0,b1,b2,b3,b4,b5,b6,c15,c16,c17,c18,c19,c20],_,[y0,y1,y2,y3,y4,y5,y6,y7,y8],_=>
   have h0:DataW.trod enc Try.prog w base spare held m 3 [c0]=some y0:=by simpa[FQ]using hf 0 _ rfl
   have h1:DataW.trod enc Try.prog w base spare held m 27 [a0,a1,a2,a3,a4,a5,a6]=some y1:=by simpa[E9]using hf 1 _ rfl
   have h2:DataW.trod enc Try.prog w base spare held m 27 [b0,b1,b2,b3,b4,b5,b6]=some y2:=by simpa[E9]using hf 2 _ rfl
   have h3:DataW.trod enc Try.prog w base spare held m 28 [c15]=some y3:=by simpa[U7]using hf 3 _ rfl
   have h4:DataW.trod enc Try.prog w base spare held m 4 [c16]=some y4:=by simpa[VP]using hf 4 _ rfl
   have h5:DataW.trod enc Try.prog w base spare held m 9 [c17]=some y5:=by simpa[IL]using hf 5 _ rfl
   have h6:DataW.trod enc Try.prog w base spare held m 9 [c18]=some y6:=by simpa[IL]using hf 6 _ rfl
   have h7:DataW.trod enc Try.prog w base spare held m 29 [c19]=some y7:=by simpa[TX]using hf 7 _ rfl
   have h8:DataW.trod enc Try.prog w base spare held m 30 [c20]=some y8:=by simpa[UH]using hf 8 _ rfl
   obtain⟨k,e0,_,wk⟩:=DataW.trod_int Try.underlying3 h0
   obtain⟨vo,fo,Fo⟩:=KB h1
   obtain⟨vn,fn,Fn⟩:=KB h2
   obtain⟨r,e4,_⟩:=DataW.trod_bool Try.underlying4 h4
   obtain⟨s,e5,_,ws⟩:=DataW.trod_string Try.underlying9 h5
   obtain⟨t,e6,_,wt⟩:=DataW.trod_string Try.underlying9 h6
   obtain⟨pf,fs,cf,e3,lf,ff,mf,mf'⟩:=FP (f:=D3) (F:=fun p:Int×Ed=>I64 p.1/\p.2.Fine) Try.underlying28 (by omega) RW CO (fun n hn cs x hx=>by
    obtain⟨zs,q,rfl,_,hzl,hql,hg⟩:=DataW.trod_struct Try.underlying61 hx
    rw[RW]at hzl
    match cs,hzl,zs,hql with
    | d0::ds,hds,[u0,u1],_=>
     have hds:ds.length=21:=by simpa using hds
     have g0:DataW.trod enc Try.prog w base spare held q 3 [d0]=some u0:=by simpa[FQ]using hg 0 _ rfl
     have g1:DataW.trod enc Try.prog w base spare held q 32 ds=some u1:=by
      have:=hg 1 _ rfl
      change DataW.trod _ _ _ _ _ _ _ 32 (ds.take (Try.prog.cellsOf 32))=some u1 at this
      rw[KA]at this
      rwa [List.take_of_length_le (by omega)]at this
     obtain⟨b,e,_,wb⟩:=DataW.trod_int Try.underlying3 g0
     obtain⟨v,hv,hV⟩:=ih q (by omega) ds u1 g1
     simp only[List.cons.injEq,and_true]at e
     subst e
     exact⟨(b,v),CD (b,v)▸.cons (.cell _) hv,J8 wb,hV⟩) h3
   obtain⟨ps,ss,cp,e7,ls,fsn,ms,ms'⟩:=FP (f:=B5) (F:=fun p:(Int×Int×Vl)×Ed=>(I64 p.1.1/\I64 p.1.2.1/\p.1.2.2.Fine)/\p.2.Fine) Try.underlying29 (by omega) RO BK (fun n hn cs x hx=>by
    obtain⟨zs,q,rfl,_,hzl,hql,hg⟩:=DataW.trod_struct Try.underlying76 hx
    rw[RO]at hzl
    match cs,hzl,zs,hql with
    | d0::d1::ds,hds,[u0,u1,u2,u3],_=>
     have hds:ds.length=28:=by simpa using hds
     have g0:DataW.trod enc Try.prog w base spare held q 3 [d0]=some u0:=by simpa[FQ]using hg 0 _ rfl
     have g1:DataW.trod enc Try.prog w base spare held q 3 [d1]=some u1:=by simpa[FQ]using hg 1 _ rfl
     have g2:DataW.trod enc Try.prog w base spare held q 27 (ds.take 7)=some u2:=by
      have:=hg 2 _ rfl
      change DataW.trod _ _ _ _ _ _ _ 27 (ds.take (Try.prog.cellsOf 27))=some u2 at this
      rwa [E9]at this
     have g3:DataW.trod enc Try.prog w base spare held q 32 (ds.drop 7)=some u3:=by
      have:=hg 3 _ rfl
      change DataW.trod _ _ _ _ _ _ _ 32 ((ds.drop 7).take (Try.prog.cellsOf 32))=some u3 at this
      rw[KA]at this
      rwa [List.take_of_length_le (by rw[List.length_drop];omega)]at this
     obtain⟨b,e,_,wb⟩:=DataW.trod_int Try.underlying3 g0
     obtain⟨c,e',_,wc⟩:=DataW.trod_int Try.underlying3 g1
     obtain⟨z,hz,hZ⟩:=KB g2
     obtain⟨v,hv,hV⟩:=ih q (by omega) _ u3 g3
     simp only[List.cons.injEq,and_true]at e e'
     subst e e'
     refine⟨((b,c,z),v),?_,⟨J8 wb,J8 wc,hZ⟩,hV⟩
     rw[BJ]
     have:=hz.append hv
     rw[List.take_append_drop]at this
     exact .cons (.cell _) (.cons (.cell _) this)) h7
   obtain⟨pk,kk,ck,e8,lk,fk,mk,mk'⟩:=FP (f:=D4) (F:=fun p:Vl×Ed=>p.1.Fine/\p.2.Fine) Try.underlying30 (by omega) RX CM (fun n hn cs x hx=>by
    obtain⟨zs,q,rfl,_,hzl,hql,hg⟩:=DataW.trod_struct Try.underlying65 hx
    rw[RX]at hzl
    match zs,hql with
    | [u0,u1],_=>
     have g0:=hg 0 _ rfl
     have g1:=hg 1 _ rfl
     change DataW.trod _ _ _ _ _ _ _ 27 (cs.take (Try.prog.cellsOf 27))=some u0 at g0
     change DataW.trod _ _ _ _ _ _ _ 32 ((cs.drop 7).take (Try.prog.cellsOf 32))=some u1 at g1
     rw[E9]at g0
     rw[KA]at g1
     obtain⟨a,ha,hA⟩:=KB g0
     obtain⟨b,hb,hB⟩:=ih q (by omega) _ u1 g1
     refine⟨(a,b),?_,hA,hB⟩
     have:=ha.append hb
     rw[List.take_of_length_le (l:=cs.drop 7) (by rw[List.length_drop];omega),List.take_append_drop]at this
     exact CG (a,b)▸this) h8
   simp only[List.cons.injEq,and_true]at e0 e3 e4 e5 e6 e7 e8
   subst e0 e3 e4 e5 e6 e7 e8
   have ls1:Lies w (Old w) (.cell (.string (str s.data.toList))) (.string s):=by rw[HB];exact .cell _
   have ls2:Lies w (Old w) (.cell (.string (str t.data.toList))) (.string t):=by rw[HB];exact .cell _
   refine⟨.mk k vo vn fs r s.data.toList t.data.toList ss kk,.cons (.cell _) (fo.append (fn.append (.cons lf (.cons (.cell _) (.cons ls1 (.cons ls2 (.cons ls (.cons lk (.nil _ _))))))))),
    .mk _ (J8 wk) Fo Fn ⟨by show s.data.toList.length<=maxLen;simpa using ws,by show t.data.toList.length<=maxLen;simpa using wt,by show fs.length<=_;omega,by show ss.length<=_;omega,by show kk.length<=_;omega⟩ (fun p hp=>(ff p hp).1) (fun p hp=>(fsn p hp).1) (fun p hp=>(fk p hp).1) (fun x hx=>?_)⟩
   rcases List.mem_append.1 hx with hx | hx
   ·obtain⟨p,hp,rfl⟩:=List.mem_map.1 hx
    exact(ff p hp).2
   rcases List.mem_append.1 hx with hx | hx
   ·obtain⟨p,hp,rfl⟩:=List.mem_map.1 hx
    exact(fsn p hp).2
   ·obtain⟨p,hp,rfl⟩:=List.mem_map.1 hx
    exact(fk p hp).2
theorem SD{r:Reach}{b0:Nat}{v:Value}{d:DataW H}{ps:List MemPlace}(hval:Value.okWide Try.prog w r b0 32 v)(h:DataW.Trod enc Try.prog w base spare held 32 v d ps):
  ∃ (x:Ed) (cs:List Value),v=.agg cs.toArray/\Fits w (Old w) (ed x) cs/\x.Fine:=by
 obtain⟨cs,rfl,_⟩:=okWide_struct Try.underlying32 hval
 obtain⟨fuel,hf⟩:=h
 obtain⟨x,hx,hF⟩:=VC fuel _ _ hf
 refine⟨x,cs.toList,by simp,?_,hF⟩
 simpa[Value.cells]using hx
end
end
end Go.Proofs.Ytecfdcdkkgmkpaa
