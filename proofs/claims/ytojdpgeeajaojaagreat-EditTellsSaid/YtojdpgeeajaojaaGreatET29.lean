/- Part 29. Conditions: as each theorem says. -/
import Derived.Test.YtojdpgeeajaojaaGreatET28
import Derived.Test.YtojdpgeeajaojaaGreatProg
import Derived.ProofKit
import Derived.OpenShut
import Derived.Carry
import Derived.ChangeSame
set_option maxRecDepth 100000
namespace Go.Proofs.YtojdpgeeajaojaaGreat
open Go.RowKit
abbrev eB(t:TypeId)(e:Ed):Bx:=⟨t,bcs (ed e)⟩
abbrev zE:List IV:=.is (.int .i64 0)::(zB++(zB++[.is (.slice none 0 0),.is (.bool false),.is (.string ⟨#[]⟩),.is (.string ⟨#[]⟩),.is (.slice none 0 0),.is (.slice none 0 0)]))
set_option maxHeartbeats 4000000 in
theorem QV(a b:Ed)(ha:a.Fine)(hb:b.Fine):EF Tryz.prog [] 3 [.many (ed a),.many (ed b)] (.part (tP true)):=by
 refine AG 52 Tryz.func3 rfl rfl rfl fun w D=>?_
 try refine A3 ?_
 refine AI ?_
 refine B9 2 rfl rfl rfl rfl (kn rfl) rfl rfl rfl rfl ?_
 refine B9 3 rfl rfl rfl rfl (kn rfl) rfl rfl rfl rfl ?_
 refine BX ?_
 refine AM ?_
 try refine A3 ?_
 refine A2 (A4 rfl rfl rfl (AD rfl (by kernel_rfl) (P4) trivial) (A4 rfl rfl rfl (BZ rfl (kn rfl)) .nil)) ?_
 try refine A3 ?_
 refine R6 ?_
 try refine A3 ?_
 refine A2 (A4 rfl rfl rfl (A7 (ds:=[_,_,_,_,_,_,_,_,_,_,_,_,_,_,_,_,_,_,_,_,_]) 21 rfl (kn rfl) rfl rfl agg_32 sz_32 rfl) (A4 rfl rfl rfl (AD rfl (by kernel_rfl) (Q0 a ha) ⟨(kn rfl),⟨(kn rfl),trivial⟩⟩) (A9 rfl rfl rfl rfl rfl (Walk.gd _ rfl rfl rfl (fun h=>A7 (ds:=[_,_,_,_,_,_,_,_,_,_,_,_,_,_,_,_,_,_,_,_,_]) 21 rfl (kn rfl) rfl rfl agg_32 sz_32 rfl) (Walk.gd _ rfl rfl rfl (fun h=>AD rfl (by kernel_rfl) (Q0 b hb) ⟨(A0 rfl h),⟨(kn rfl),trivial⟩⟩) (A4 rfl rfl rfl (BO rfl (kn rfl) (fun hb=>A0 rfl hb)) .nil)))))) ?_
 try refine A3 ?_
 refine AB rfl (fun h=>?_) (fun h=>?_)
 ·try refine A3 ?_
  refine A2 (AC rfl rfl rfl rfl rfl .nil) ?_
  try refine A3 ?_
  exact A8 rfl rfl (.tmp (kn rfl) (.nil)) (Imp.of_eq rfl) rfl
 simp only[Bool.or_eq_false_iff]at h
 obtain⟨g1,g2⟩:=h
 have qa:=PV ha g1
 have qb:=PV hb g2
 clear g1 g2
 have oa:=SY a qa
 have ob:=SY b qb
 try refine A3 ?_
 refine AL (T':=[(2,.box 2 0),(3,.box 3 0)]) (B':=[(2,eB 32 a),(3,eB 32 b)]) (R':=[]) ⟨s_t,s_t,trivial⟩ ⟨s_b,s_b,trivial⟩ trivial ?_
 refine QJ 8 [[],[0],[],[2,1],[],[],[4,1,3,0,1,4,5],[5,3,6,0,1,2,3,4,5,6]] [[false,false,false,false,false,false,false,false],[true,false,false,false,false,false,false,false],[false,false,true,false,false,false,false,false],[false,false,false,false,true,false,false,false],[false,false,false,false,false,true,false,false],[true,true,false,false,false,false,false,false],[true,false,true,false,false,false,false,false],[true,false,false,false,true,false,false,false],[true,false,false,false,false,true,false,false],[false,false,true,false,true,false,false,false],[false,false,true,false,false,true,false,false],[false,false,false,false,true,true,false,false],[true,true,true,false,false,false,false,false],[true,true,false,false,true,false,false,false],[true,true,false,false,false,true,false,false],[true,false,true,false,true,false,false,false],[true,false,true,false,false,true,false,false],[true,false,false,false,true,true,false,false],[false,false,true,false,true,true,false,false],[true,true,true,true,false,false,false,false],[true,true,true,false,true,false,false,false],[true,true,true,false,false,true,false,false],[true,true,false,false,true,true,false,false],[true,false,true,false,true,true,false,false],[true,true,true,true,true,false,false,false],[true,true,true,true,false,true,false,false],[true,true,true,false,true,true,false,false],[true,true,true,true,true,true,false,false],[true,true,true,true,true,true,true,false],[true,true,true,true,true,true,true,true]] [([false,false,false,false,false,false,false,false],0),([false,false,false,false,false,false,false,false],2),([false,false,false,false,false,false,false,false],4),([false,false,false,false,false,false,false,false],5),([true,false,false,false,false,false,false,false],1),([true,false,false,false,false,false,false,false],2),([true,false,false,false,false,false,false,false],4),([true,false,false,false,false,false,false,false],5),([false,false,true,false,false,false,false,false],0),([false,false,true,false,false,false,false,false],4),([false,false,true,false,false,false,false,false],5),([false,false,false,false,true,false,false,false],0),([false,false,false,false,true,false,false,false],2),([false,false,false,false,true,false,false,false],5),([false,false,false,false,false,true,false,false],0),([false,false,false,false,false,true,false,false],2),([false,false,false,false,false,true,false,false],4),([true,true,false,false,false,false,false,false],2),([true,true,false,false,false,false,false,false],4),([true,true,false,false,false,false,false,false],5),([true,false,true,false,false,false,false,false],1),([true,false,true,false,false,false,false,false],4),([true,false,true,false,false,false,false,false],5),([true,false,false,false,true,false,false,false],1),([true,false,false,false,true,false,false,false],2),([true,false,false,false,true,false,false,false],5),([true,false,false,false,false,true,false,false],1),([true,false,false,false,false,true,false,false],2),([true,false,false,false,false,true,false,false],4),([false,false,true,false,true,false,false,false],0),([false,false,true,false,true,false,false,false],5),([false,false,true,false,false,true,false,false],0),([false,false,true,false,false,true,false,false],4),([false,false,false,false,true,true,false,false],0),([false,false,false,false,true,true,false,false],2),([true,true,true,false,false,false,false,false],3),([true,true,true,false,false,false,false,false],4),([true,true,true,false,false,false,false,false],5),([true,true,false,false,true,false,false,false],2),([true,true,false,false,true,false,false,false],5),([true,true,false,false,false,true,false,false],2),([true,true,false,false,false,true,false,false],4),([true,false,true,false,true,false,false,false],1),([true,false,true,false,true,false,false,false],5),([true,false,true,false,false,true,false,false],1),([true,false,true,false,false,true,false,false],4),([true,false,false,false,true,true,false,false],1),([true,false,false,false,true,true,false,false],2),([false,false,true,false,true,true,false,false],0),([true,true,true,true,false,false,false,false],4),([true,true,true,true,false,false,false,false],5),([true,true,true,false,true,false,false,false],3),([true,true,true,false,true,false,false,false],5),([true,true,true,false,false,true,false,false],3),([true,true,true,false,false,true,false,false],4),([true,true,false,false,true,true,false,false],2),([true,false,true,false,true,true,false,false],1),([true,true,true,true,true,false,false,false],5),([true,true,true,true,false,true,false,false],4),([true,true,true,false,true,true,false,false],3),([true,true,true,true,true,true,false,false],6),([true,true,true,true,true,true,true,false],7)] [(0,15,.part (.many (ed a))),(1,16,.part (.many (ed a))),(2,17,.part (.many (ed b))),(3,18,.part (.many (ed b))),(4,5,.box 5 0),(5,6,.box 6 0)] [(6,5,eB 44 a),(7,6,eB 44 b),(4,5,⟨44,zE⟩),(5,6,⟨44,zE⟩)] [(2,.box 2 0),(3,.box 3 0)] [(2,eB 32 a),(3,eB 32 b)] (by kernel_rfl) rfl BF (by kernel_rfl) (by decide) (fun K h=>h) ?_ ?_
 ·repeat' first
   | exact trivial
   | refine And.intro ?_ ?_
  all_goals
   intro K hK
   first
    | (refine IJ (i:=0) rfl (fun h=>h) ?_;refine AQ (A7 (ds:=[_,_,_,_,_,_,_,_,_,_,_,_,_,_,_,_,_,_,_,_,_]) 21 rfl (kn rfl) rfl rfl agg_32 sz_32 rfl) ?_;refine AM ?_;refine A3 ?_;exact FS hK (by repeat' first | exact trivial | refine And.intro s_t ?_) (by repeat' first | exact trivial | refine And.intro s_b ?_))
    | (refine IJ (i:=1) rfl (fun h=>h) ?_;refine AQ (AD rfl (by kernel_rfl) (oa) ⟨(kn rfl),trivial⟩) ?_;refine AM ?_;refine A3 ?_;exact FS hK (by repeat' first | exact trivial | refine And.intro s_t ?_) (by repeat' first | exact trivial | refine And.intro s_b ?_))
    | (refine IJ (i:=2) rfl (fun h=>h) ?_;refine AQ (A7 (ds:=[_,_,_,_,_,_,_,_,_,_,_,_,_,_,_,_,_,_,_,_,_]) 21 rfl (kn rfl) rfl rfl agg_32 sz_32 rfl) ?_;refine AM ?_;refine A3 ?_;exact FS hK (by repeat' first | exact trivial | refine And.intro s_t ?_) (by repeat' first | exact trivial | refine And.intro s_b ?_))
    | (refine IJ (i:=3) rfl (fun h=>h) ?_;refine AQ (AD rfl (by kernel_rfl) (ob) ⟨(kn rfl),trivial⟩) ?_;refine AM ?_;refine A3 ?_;exact FS hK (by repeat' first | exact trivial | refine And.intro s_t ?_) (by repeat' first | exact trivial | refine And.intro s_b ?_))
    | (refine IJ (i:=4) rfl (fun h=>h) ?_;refine AW 5 [.is (.int .i64 0),.is (.int .i64 0),.is (.int .u64 0),.is (.string ⟨#[]⟩),.is (.slice none 0 0),.is (.string ⟨#[]⟩),.is (.slice none 0 0),.is (.slice none 0 0),.is (.int .i64 0),.is (.int .u64 0),.is (.string ⟨#[]⟩),.is (.slice none 0 0),.is (.string ⟨#[]⟩),.is (.slice none 0 0),.is (.slice none 0 0),.is (.slice none 0 0),.is (.bool false),.is (.string ⟨#[]⟩),.is (.string ⟨#[]⟩),.is (.slice none 0 0),.is (.slice none 0 0)] rfl rfl rfl rfl zr_44 (fun w D M V=>⟨rfl,fun j x v h1 h2=>AV _ h1 h2 rfl⟩) rfl rfl rfl rfl ?_;refine AM ?_;refine A3 ?_;exact FS hK (by repeat' first | exact trivial | refine And.intro s_t ?_) (by repeat' first | exact trivial | refine And.intro s_b ?_))
    | (refine IJ (i:=5) rfl (fun h=>h) ?_;refine AW 6 [.is (.int .i64 0),.is (.int .i64 0),.is (.int .u64 0),.is (.string ⟨#[]⟩),.is (.slice none 0 0),.is (.string ⟨#[]⟩),.is (.slice none 0 0),.is (.slice none 0 0),.is (.int .i64 0),.is (.int .u64 0),.is (.string ⟨#[]⟩),.is (.slice none 0 0),.is (.string ⟨#[]⟩),.is (.slice none 0 0),.is (.slice none 0 0),.is (.slice none 0 0),.is (.bool false),.is (.string ⟨#[]⟩),.is (.string ⟨#[]⟩),.is (.slice none 0 0),.is (.slice none 0 0)] rfl rfl rfl rfl zr_44 (fun w D M V=>⟨rfl,fun j x v h1 h2=>AV _ h1 h2 rfl⟩) rfl rfl rfl rfl ?_;refine AM ?_;refine A3 ?_;exact FS hK (by repeat' first | exact trivial | refine And.intro s_t ?_) (by repeat' first | exact trivial | refine And.intro s_b ?_))
    | (refine IJ (i:=6) rfl (fun h=>h) ?_;refine AT rfl rfl rfl (kn rfl) rfl (kn rfl) rfl rfl sz_44 ?_;refine AM ?_;refine A3 ?_;exact FS hK (by repeat' first | exact trivial | refine And.intro s_t ?_) (by repeat' first | exact trivial | refine And.intro s_b ?_))
    | (refine IJ (i:=7) rfl (fun h=>h) ?_;refine AT rfl rfl rfl (kn rfl) rfl (kn rfl) rfl rfl sz_44 ?_;refine AM ?_;refine A3 ?_;exact FS hK (by repeat' first | exact trivial | refine And.intro s_t ?_) (by repeat' first | exact trivial | refine And.intro s_b ?_))
 try refine A3 ?_
 refine BD BF (by kernel_rfl) (A4 rfl rfl rfl (A7 (ds:=[_,_,_,_,_,_,_,_,_,_,_,_,_,_,_,_,_,_,_,_,_]) 21 rfl (kn rfl) rfl rfl agg_32 sz_32 rfl) (A4 rfl rfl rfl (AD rfl (by kernel_rfl) (ID a qa) ⟨(kn rfl),trivial⟩) (A4 rfl rfl rfl (A7 (ds:=[_,_,_,_,_,_,_,_,_,_,_,_,_,_,_,_,_,_,_,_,_]) 21 rfl (kn rfl) rfl rfl agg_44 sz_44 rfl) (A4 rfl rfl rfl (AD rfl (by kernel_rfl) (Q1 a qa) ⟨(kn rfl),trivial⟩) (A4 rfl rfl rfl (A6 rfl (kn rfl) (kn rfl) (SV bool_4)) (A9 rfl rfl rfl rfl rfl (Walk.gd _ rfl rfl rfl (fun h=>A7 (ds:=[_,_,_,_,_,_,_,_,_,_,_,_,_,_,_,_,_,_,_,_,_]) 21 rfl (kn rfl) rfl rfl agg_32 sz_32 rfl) (Walk.gd _ rfl rfl rfl (fun h=>AD rfl (by kernel_rfl) (LE a qa) ⟨(A0 rfl h),trivial⟩) (Walk.gd _ rfl rfl rfl (fun h=>A7 (ds:=[_,_,_,_,_,_,_,_,_,_,_,_,_,_,_,_,_,_,_,_,_]) 21 rfl (kn rfl) rfl rfl agg_44 sz_44 rfl) (Walk.gd _ rfl rfl rfl (fun h=>AD rfl (by kernel_rfl) (SI a qa) ⟨(A0 rfl h),trivial⟩) (Walk.gd _ rfl rfl rfl (fun h=>A6 rfl (A0 rfl h) (A0 rfl h) AP) (A4 rfl rfl rfl (AO rfl (kn rfl) (fun hb=>A0 rfl hb)) (A9 rfl rfl rfl rfl rfl (Walk.gd _ rfl rfl rfl (fun h=>A7 (ds:=[_,_,_,_,_,_,_,_,_,_,_,_,_,_,_,_,_,_,_,_,_]) 21 rfl (kn rfl) rfl rfl agg_32 sz_32 rfl) (Walk.gd _ rfl rfl rfl (fun h=>AD rfl (by kernel_rfl) (OM a qa) ⟨(A0 rfl h),trivial⟩) (Walk.gd _ rfl rfl rfl (fun h=>A7 (ds:=[_,_,_,_,_,_,_,_,_,_,_,_,_,_,_,_,_,_,_,_,_]) 21 rfl (kn rfl) rfl rfl agg_44 sz_44 rfl) (Walk.gd _ rfl rfl rfl (fun h=>AD rfl (by kernel_rfl) (QH a qa) ⟨(A0 rfl h),trivial⟩) (Walk.gd _ rfl rfl rfl (fun h=>A6 rfl (A0 rfl h) (A0 rfl h) AP) (A4 rfl rfl rfl (AO rfl (kn rfl) (fun hb=>A0 rfl hb)) (A9 rfl rfl rfl rfl rfl (Walk.gd _ rfl rfl rfl (fun h=>A7 (ds:=[_,_,_,_,_,_,_,_,_,_,_,_,_,_,_,_,_,_,_,_,_]) 21 rfl (kn rfl) rfl rfl agg_32 sz_32 rfl) (Walk.gd _ rfl rfl rfl (fun h=>A7 (ds:=[_,_,_,_,_,_,_,_,_,_,_,_,_,_,_,_,_,_,_,_,_]) 21 rfl (kn rfl) rfl rfl agg_32 sz_32 rfl) (Walk.gd _ rfl rfl rfl (fun h=>AD rfl (by kernel_rfl) (LL a b qa qb) ⟨(A0 rfl h),⟨(A0 rfl h),trivial⟩⟩) (Walk.gd _ rfl rfl rfl (fun h=>A7 (ds:=[_,_,_,_,_,_,_,_,_,_,_,_,_,_,_,_,_,_,_,_,_]) 21 rfl (kn rfl) rfl rfl agg_44 sz_44 rfl) (Walk.gd _ rfl rfl rfl (fun h=>A7 (ds:=[_,_,_,_,_,_,_,_,_,_,_,_,_,_,_,_,_,_,_,_,_]) 21 rfl (kn rfl) rfl rfl agg_44 sz_44 rfl) (Walk.gd _ rfl rfl rfl (fun h=>AD rfl (by kernel_rfl) (U9 a qa b qb) ⟨(A0 rfl h),⟨(A0 rfl h),trivial⟩⟩) (Walk.gd _ rfl rfl rfl (fun h=>A6 rfl (A0 rfl h) (A0 rfl h) (SV bool_4)) (A4 rfl rfl rfl (AO rfl (kn rfl) (fun hb=>A0 rfl hb)) (A9 rfl rfl rfl rfl rfl (Walk.gd _ rfl rfl rfl (fun h=>A7 (ds:=[_,_,_,_,_,_,_,_,_,_,_,_,_,_,_,_,_,_,_,_,_]) 21 rfl (kn rfl) rfl rfl agg_32 sz_32 rfl) (Walk.gd _ rfl rfl rfl (fun h=>A7 (ds:=[_,_,_,_,_,_,_,_,_,_,_,_,_,_,_,_,_,_,_,_,_]) 21 rfl (kn rfl) rfl rfl agg_32 sz_32 rfl) (Walk.gd _ rfl rfl rfl (fun h=>AD rfl (by kernel_rfl) (LL a a qa qa) ⟨(A0 rfl h),⟨(A0 rfl h),trivial⟩⟩) (A4 rfl rfl rfl (AO rfl (kn rfl) (fun hb=>A0 rfl hb)) (AC rfl rfl rfl rfl rfl .nil)))))))))))))))))))))))))))))))))) ?_
 try refine A3 ?_
 exact A8 rfl rfl (.tmp (kn rfl) (.nil)) (AZ (by simp[RV])) rfl
section
open Go.ChangeShapes Go.WideShapes Go.ChangeAt Go.RowKit
section
variable{H:Type}{enc:TypeId×Value->H}{P:Program}
theorem SL{x:Int}(h:(Lit.int .u64 x).wf=true):∃ n:Nat,x=(n:Int)/\n<18446744073709551616:=by
 have h1:IntKind.u64.min=0:=rfl
 have h2:IntKind.u64.max=18446744073709551615:=rfl
 simp only[Lit.wf,Bool.and_eq_true,decide_eq_true_eq]at h
 exact⟨x.toNat,by omega,by omega⟩
theorem I9{x:Int}(h:(Lit.int .i64 x).wf=true):-9223372036854775808<=x/\x<9223372036854775808:=by
 have h1:IntKind.i64.min = -9223372036854775808:=rfl
 have h2:IntKind.i64.max=9223372036854775807:=rfl
 simp only[Lit.wf,Bool.and_eq_true,decide_eq_true_eq]at h
 omega
theorem HZ(hl:laidOutB P=true){W W':World}(hb:Below W.heap.size W W'){sp:Nat->Bool}:∀ {ts:List TypeId} {vs:List Value} {ds:List (DataW H)} {ps:List MemPlace},
  (ts.all fun t=>P.readableRec t&&decide (t<P.types.size))=true->DataW.TrodAll enc P W 0 (fun _=>true) true ts vs ds ps->(∀ p∈ps,p.block<W.heap.size)->(∀ p∈ps,sp p.block=true) ->
  DataW.TrodAll enc P W' 0 sp true ts vs ds ps
 | [],_,_,_,_,h,_,_=>by
  obtain⟨rfl,rfl,rfl⟩:=trodAll_nil h
  exact trodAll_mk0
 | t::ts,_,_,_,ht,h,hlt,hsp=>by
  simp only[List.all_cons,Bool.and_eq_true,decide_eq_true_eq]at ht
  obtain⟨v,vs,d,ds,p,q,rfl,rfl,rfl,h0,hr⟩:=trodAll_cons h
  exact trodAll_cons_mk (WideElems.Trod_stays hl ht.1.1 ht.1.2 h0 (fun x hx=>hb.same (hlt x (List.mem_append_left _ hx))) (fun x hx=>hsp x (List.mem_append_left _ hx)))
   (HZ hl hb ht.2 hr (fun x hx=>hlt x (List.mem_append_right _ hx)) (fun x hx=>hsp x (List.mem_append_right _ hx)))
theorem RA{f:Func}{s:ChangeSpec}{W W':World}{args:Array Value}{ds:List (DataW H)}{before:List MemPlace}
  (hl:laidOutB P=true) (ht:(f.params.toList.all fun t=>P.readableRec t&&decide (t<P.types.size))=true)
  (hvars:s.vars=[]) (hs:s.fn H (ds++[])={ results:=[.lit (.bool true)],args:=ds }) {tb:TypeId} (hres:f.resultTypes = #[tb]) (hbool:P.underlying tb=some .bool)
  (hW:DataW.Whole enc P f.params.toList s.vars false W args.toList ds [] before)
  (hA:DataW.TrodAll enc P W 0 (fun _=>true) true f.params.toList args.toList ds before) (hb:Below W.heap.size W W'):
  s.post enc P f false true false false W args (.bool true) W':=by
 have hlt:∀ p∈before,p.block<W.heap.size:=fun p hp=>hW.lt p hp
 have e1:(Value.bool true).resultList f.resultTypes.size=[Value.bool true]:=by rw[hres];rfl
 refine⟨ds,[],before,[],before,[],hW,?_,?_,?_,World.keptBut_mono (fun p hp=>⟨hp,by simpa using hp⟩) (hb.frame (· ∈ before)),fun h=>by cases h⟩
 ·rw[hs,e1,hres]
  exact trodAll_mk1 (shut_bool hbool _)
 ·rw[hs]
  exact HZ hl hb ht hA hlt (fun p hp=>by simpa using hlt p hp)
 ·rw[hs,hvars]
  rfl
end
end
section
open Go.ChangeShapes Go.WideShapes Go.ChangeAt Go.RowKit
theorem GG(s:ByteArray):str s.data.toList=s:=by
 unfold str
 simp
section
variable{H:Type}{enc:TypeId×Value->H}{w:World}{base:Nat}{spare:Nat->Bool}{held:Bool}
theorem DR:Tryz.prog.cellsOf 27=7:=by kernel_rfl
theorem MT:Tryz.prog.cellsOf 79=8:=by kernel_rfl
theorem ML:Tryz.prog.cellsOf 83=14:=by kernel_rfl
theorem EZ:Tryz.prog.cellsOf 3=1:=by kernel_rfl
theorem QL:Tryz.prog.cellsOf 22=1:=by kernel_rfl
theorem HW:Tryz.prog.cellsOf 9=1:=by kernel_rfl
theorem T5:Tryz.prog.cellsOf 23=1:=by kernel_rfl
theorem TB:Tryz.prog.cellsOf 24=1:=by kernel_rfl
theorem T6:Tryz.prog.cellsOf 25=1:=by kernel_rfl
set_option maxHeartbeats 1000000 in
theorem R7:∀ (fuel:Nat) (cs:List Value) (x:DataW H×List MemPlace),DataW.trod enc Tryz.prog w base spare held fuel 27 cs=some x -> ∃ v:Vl,Fits w (Old w) v.dats cs/\v.Fine:=by
 intro fuel
 induction fuel using Nat.strongRecOn with
 | ind fuel ih=>
  intro cs x h
  obtain⟨xs,m,rfl,_,hcl,hxl,hf⟩:=DataW.trod_struct Tryz.underlying27 h
  rw[DR]at hcl
  match cs,hcl,xs,hxl with
  | [c0,c1,c2,c3,c4,c5,c6],_,[y0,y1,y2,y3,y4,y5,y6],_=>
   have h0:DataW.trod enc Tryz.prog w base spare held m 3 [c0]=some y0:=by simpa[EZ]using hf 0 _ rfl
   have h1:DataW.trod enc Tryz.prog w base spare held m 22 [c1]=some y1:=by simpa[QL]using hf 1 _ rfl
   have h2:DataW.trod enc Tryz.prog w base spare held m 9 [c2]=some y2:=by simpa[HW]using hf 2 _ rfl
   have h3:DataW.trod enc Tryz.prog w base spare held m 23 [c3]=some y3:=by simpa[T5]using hf 3 _ rfl
   have h4:DataW.trod enc Tryz.prog w base spare held m 9 [c4]=some y4:=by simpa[HW]using hf 4 _ rfl
   have h5:DataW.trod enc Tryz.prog w base spare held m 24 [c5]=some y5:=by simpa[TB]using hf 5 _ rfl
   have h6:DataW.trod enc Tryz.prog w base spare held m 25 [c6]=some y6:=by simpa[T6]using hf 6 _ rfl
   obtain⟨k,e0,_,wk⟩:=DataW.trod_int Tryz.underlying3 h0
   obtain⟨z,e1,_,wz⟩:=DataW.trod_int Tryz.underlying22 h1
   obtain⟨s,e2,_,ws⟩:=DataW.trod_string Tryz.underlying9 h2
   obtain⟨t,e4,_,wt⟩:=DataW.trod_string Tryz.underlying9 h4
   obtain⟨n,rfl,hn⟩:=SL wz
   obtain⟨lo,hi⟩:=I9 wk
   obtain⟨pf,fs,cf,e3,lf,ff,mf,mf'⟩:=EV (f:=fieldDats) (F:=fun f:Int×Vl=>(-9223372036854775808<=f.1/\f.1<9223372036854775808)/\f.2.Fine) Tryz.underlying23 (by omega) MT B3 (fun n hn cs x hx=>by
    obtain⟨zs,q,rfl,_,hzl,hql,hg⟩:=DataW.trod_struct Tryz.underlying79 hx
    rw[MT]at hzl
    match cs,hzl,zs,hql with
    | d0::ds,hds,[u0,u1],_=>
     have hds:ds.length=7:=by simpa using hds
     have g0:DataW.trod enc Tryz.prog w base spare held q 3 [d0]=some u0:=by simpa[EZ]using hg 0 _ rfl
     have g1:DataW.trod enc Tryz.prog w base spare held q 27 ds=some u1:=by
      have:=hg 1 _ rfl
      change DataW.trod _ _ _ _ _ _ _ 27 (ds.take (Tryz.prog.cellsOf 27))=some u1 at this
      rw[DR]at this
      rwa [List.take_of_length_le (by omega)]at this
     obtain⟨b,e,_,wb⟩:=DataW.trod_int Tryz.underlying3 g0
     obtain⟨v,hv,hV⟩:=ih q (by omega) ds u1 g1
     simp only[List.cons.injEq,and_true]at e
     subst e
     exact⟨(b,v),.cons (.cell _) hv,I9 wb,hV⟩) h3
   obtain⟨pl,ls,cl,e5,ll,fl,ml,ml'⟩:=EV (f:=Vl.dats) (F:=Vl.Fine) Tryz.underlying24 (by omega) DR Vl.dats_len (fun n hn cs x hx=>ih n (by omega) cs x hx) h5
   obtain⟨pp,ps,cp,e6,lp,fp,mp,mp'⟩:=EV (f:=pairDats) (F:=fun p:Vl×Vl=>p.1.Fine/\p.2.Fine) Tryz.underlying25 (by omega) ML B5 (fun n hn cs x hx=>by
    obtain⟨zs,q,rfl,_,hzl,hql,hg⟩:=DataW.trod_struct Tryz.underlying83 hx
    rw[ML]at hzl
    match zs,hql with
    | [u0,u1],_=>
     have g0:=hg 0 _ rfl
     have g1:=hg 1 _ rfl
     change DataW.trod _ _ _ _ _ _ _ 27 (cs.take (Tryz.prog.cellsOf 27))=some u0 at g0
     change DataW.trod _ _ _ _ _ _ _ 27 ((cs.drop 7).take (Tryz.prog.cellsOf 27))=some u1 at g1
     rw[DR]at g0 g1
     obtain⟨a,ha,hA⟩:=ih q (by omega) _ u0 g0
     obtain⟨b,hb,hB⟩:=ih q (by omega) _ u1 g1
     refine⟨(a,b),?_,hA,hB⟩
     have:=ha.append hb
     rw[List.take_of_length_le (l:=cs.drop 7) (by rw[List.length_drop];omega),List.take_append_drop]at this
     exact this) h6
   simp only[List.cons.injEq,and_true]at e0 e1 e2 e3 e4 e5 e6
   subst e0 e1 e2 e3 e4 e5 e6
   refine⟨.mk k n s.data.toList fs t.data.toList ls ps,?_,.mk _ lo hi hn (by show s.data.toList.length<=maxLen;simpa using ws) (by show t.data.toList.length<=maxLen;simpa using wt) (by show fs.length<=_;omega) (by show ls.length<=_;omega) (by show ps.length<=_;omega) (fun f hf=>(ff f hf).1) (fun f hf=>(ff f hf).2) fl (fun p hp=>(fp p hp).1) (fun p hp=>(fp p hp).2)⟩
   have:=Vl.shut (v:=.mk k n s.data.toList fs t.data.toList ls ps) lf ll lp
   unfold MF at this
   rw[Vl.text_mk,Vl.rest_mk,GG,GG]at this
   exact this
end
end
section
open Go.ChangeShapes Go.WideShapes Go.ChangeAt Go.RowKit
section
variable{H:Type}{enc:TypeId×Value->H}{w:World}{base:Nat}{spare:Nat->Bool}{held:Bool}
theorem JB:Tryz.prog.cellsOf 32=21:=by kernel_rfl
theorem PZ:Tryz.prog.cellsOf 57=22:=by kernel_rfl
theorem PK:Tryz.prog.cellsOf 77=30:=by kernel_rfl
theorem PM:Tryz.prog.cellsOf 61=28:=by kernel_rfl
theorem TP:Tryz.prog.cellsOf 4=1:=by kernel_rfl
theorem S0:Tryz.prog.cellsOf 28=1:=by kernel_rfl
theorem RE:Tryz.prog.cellsOf 29=1:=by kernel_rfl
theorem RG:Tryz.prog.cellsOf 30=1:=by kernel_rfl
theorem JD{fuel:Nat}{cs:List Value}{x:DataW H×List MemPlace}(h:DataW.trod enc Tryz.prog w base spare held fuel 27 cs=some x):∃ v:Vl,Fits w (Old w) (vd v) cs/\v.Fine:=by
 obtain⟨v,h1,h2⟩:=R7 fuel cs x h
 exact⟨v,CB v▸h1,h2⟩
set_option maxHeartbeats 1000000 in
theorem TT:∀ (fuel:Nat) (cs:List Value) (x:DataW H×List MemPlace),DataW.trod enc Tryz.prog w base spare held fuel 32 cs=some x -> ∃ e:Ed,Fits w (Old w) (ed e) cs/\e.Fine:=by
 intro fuel
 induction fuel using Nat.strongRecOn with
 | ind fuel ih=>
  intro cs x h
  obtain⟨xs,m,rfl,_,hcl,hxl,hf⟩:=DataW.trod_struct Tryz.underlying32 h
  rw[JB]at hcl
  match cs,hcl,xs,hxl with
  | [c0,a0,a1,a2,a3,a4,a5,a6,b0,b1,b2,b3,b4,b5,b6,c15,c16,c17,c18,c19,c20],_,[y0,y1,y2,y3,y4,y5,y6,y7,y8],_=>
   have h0:DataW.trod enc Tryz.prog w base spare held m 3 [c0]=some y0:=by simpa[EZ]using hf 0 _ rfl
   have h1:DataW.trod enc Tryz.prog w base spare held m 27 [a0,a1,a2,a3,a4,a5,a6]=some y1:=by simpa[DR]using hf 1 _ rfl
   have h2:DataW.trod enc Tryz.prog w base spare held m 27 [b0,b1,b2,b3,b4,b5,b6]=some y2:=by simpa[DR]using hf 2 _ rfl
   have h3:DataW.trod enc Tryz.prog w base spare held m 28 [c15]=some y3:=by simpa[S0]using hf 3 _ rfl
   have h4:DataW.trod enc Tryz.prog w base spare held m 4 [c16]=some y4:=by simpa[TP]using hf 4 _ rfl
   have h5:DataW.trod enc Tryz.prog w base spare held m 9 [c17]=some y5:=by simpa[HW]using hf 5 _ rfl
   have h6:DataW.trod enc Tryz.prog w base spare held m 9 [c18]=some y6:=by simpa[HW]using hf 6 _ rfl
   have h7:DataW.trod enc Tryz.prog w base spare held m 29 [c19]=some y7:=by simpa[RE]using hf 7 _ rfl
   have h8:DataW.trod enc Tryz.prog w base spare held m 30 [c20]=some y8:=by simpa[RG]using hf 8 _ rfl
   obtain⟨k,e0,_,wk⟩:=DataW.trod_int Tryz.underlying3 h0
   obtain⟨vo,fo,Fo⟩:=JD h1
   obtain⟨vn,fn,Fn⟩:=JD h2
   obtain⟨r,e4,_⟩:=DataW.trod_bool Tryz.underlying4 h4
   obtain⟨s,e5,_,ws⟩:=DataW.trod_string Tryz.underlying9 h5
   obtain⟨t,e6,_,wt⟩:=DataW.trod_string Tryz.underlying9 h6
   obtain⟨pf,fs,cf,e3,lf,ff,mf,mf'⟩:=EV (f:=CT) (F:=fun p:Int×Ed=>I64 p.1/\p.2.Fine) Tryz.underlying28 (by omega) PZ BT (fun n hn cs x hx=>by
    obtain⟨zs,q,rfl,_,hzl,hql,hg⟩:=DataW.trod_struct Tryz.underlying57 hx
    rw[PZ]at hzl
    match cs,hzl,zs,hql with
    | d0::ds,hds,[u0,u1],_=>
     have hds:ds.length=21:=by simpa using hds
     have g0:DataW.trod enc Tryz.prog w base spare held q 3 [d0]=some u0:=by simpa[EZ]using hg 0 _ rfl
     have g1:DataW.trod enc Tryz.prog w base spare held q 32 ds=some u1:=by
      have:=hg 1 _ rfl
      change DataW.trod _ _ _ _ _ _ _ 32 (ds.take (Tryz.prog.cellsOf 32))=some u1 at this
      rw[JB]at this
      rwa [List.take_of_length_le (by omega)]at this
     obtain⟨b,e,_,wb⟩:=DataW.trod_int Tryz.underlying3 g0
     obtain⟨v,hv,hV⟩:=ih q (by omega) ds u1 g1
     simp only[List.cons.injEq,and_true]at e
     subst e
     exact⟨(b,v),C0 (b,v)▸.cons (.cell _) hv,I9 wb,hV⟩) h3
   obtain⟨ps,ss,cp,e7,ls,fsn,ms,ms'⟩:=EV (f:=CA) (F:=fun p:(Int×Int×Vl)×Ed=>(I64 p.1.1/\I64 p.1.2.1/\p.1.2.2.Fine)/\p.2.Fine) Tryz.underlying29 (by omega) PK BM (fun n hn cs x hx=>by
    obtain⟨zs,q,rfl,_,hzl,hql,hg⟩:=DataW.trod_struct Tryz.underlying77 hx
    rw[PK]at hzl
    match cs,hzl,zs,hql with
    | d0::d1::ds,hds,[u0,u1,u2,u3],_=>
     have hds:ds.length=28:=by simpa using hds
     have g0:DataW.trod enc Tryz.prog w base spare held q 3 [d0]=some u0:=by simpa[EZ]using hg 0 _ rfl
     have g1:DataW.trod enc Tryz.prog w base spare held q 3 [d1]=some u1:=by simpa[EZ]using hg 1 _ rfl
     have g2:DataW.trod enc Tryz.prog w base spare held q 27 (ds.take 7)=some u2:=by
      have:=hg 2 _ rfl
      change DataW.trod _ _ _ _ _ _ _ 27 (ds.take (Tryz.prog.cellsOf 27))=some u2 at this
      rwa [DR]at this
     have g3:DataW.trod enc Tryz.prog w base spare held q 32 (ds.drop 7)=some u3:=by
      have:=hg 3 _ rfl
      change DataW.trod _ _ _ _ _ _ _ 32 ((ds.drop 7).take (Tryz.prog.cellsOf 32))=some u3 at this
      rw[JB]at this
      rwa [List.take_of_length_le (by rw[List.length_drop];omega)]at this
     obtain⟨b,e,_,wb⟩:=DataW.trod_int Tryz.underlying3 g0
     obtain⟨c,e',_,wc⟩:=DataW.trod_int Tryz.underlying3 g1
     obtain⟨z,hz,hZ⟩:=JD g2
     obtain⟨v,hv,hV⟩:=ih q (by omega) _ u3 g3
     simp only[List.cons.injEq,and_true]at e e'
     subst e e'
     refine⟨((b,c,z),v),?_,⟨I9 wb,I9 wc,hZ⟩,hV⟩
     rw[BR]
     have:=hz.append hv
     rw[List.take_append_drop]at this
     exact .cons (.cell _) (.cons (.cell _) this)) h7
   obtain⟨pk,kk,ck,e8,lk,fk,mk,mk'⟩:=EV (f:=CU) (F:=fun p:Vl×Ed=>p.1.Fine/\p.2.Fine) Tryz.underlying30 (by omega) PM BK (fun n hn cs x hx=>by
    obtain⟨zs,q,rfl,_,hzl,hql,hg⟩:=DataW.trod_struct Tryz.underlying61 hx
    rw[PM]at hzl
    match zs,hql with
    | [u0,u1],_=>
     have g0:=hg 0 _ rfl
     have g1:=hg 1 _ rfl
     change DataW.trod _ _ _ _ _ _ _ 27 (cs.take (Tryz.prog.cellsOf 27))=some u0 at g0
     change DataW.trod _ _ _ _ _ _ _ 32 ((cs.drop 7).take (Tryz.prog.cellsOf 32))=some u1 at g1
     rw[DR]at g0
     rw[JB]at g1
     obtain⟨a,ha,hA⟩:=JD g0
     obtain⟨b,hb,hB⟩:=ih q (by omega) _ u1 g1
     refine⟨(a,b),?_,hA,hB⟩
     have:=ha.append hb
     rw[List.take_of_length_le (l:=cs.drop 7) (by rw[List.length_drop];omega),List.take_append_drop]at this
     exact BS (a,b)▸this) h8
   simp only[List.cons.injEq,and_true]at e0 e3 e4 e5 e6 e7 e8
   subst e0 e3 e4 e5 e6 e7 e8
   have ls1:Lies w (Old w) (.cell (.string (str s.data.toList))) (.string s):=by rw[GG];exact .cell _
   have ls2:Lies w (Old w) (.cell (.string (str t.data.toList))) (.string t):=by rw[GG];exact .cell _
   refine⟨.mk k vo vn fs r s.data.toList t.data.toList ss kk,.cons (.cell _) (fo.append (fn.append (.cons lf (.cons (.cell _) (.cons ls1 (.cons ls2 (.cons ls (.cons lk (.nil _ _))))))))),
    .mk _ (I9 wk) Fo Fn ⟨by show s.data.toList.length<=maxLen;simpa using ws,by show t.data.toList.length<=maxLen;simpa using wt,by show fs.length<=_;omega,by show ss.length<=_;omega,by show kk.length<=_;omega⟩ (fun p hp=>(ff p hp).1) (fun p hp=>(fsn p hp).1) (fun p hp=>(fk p hp).1) (fun x hx=>?_)⟩
   rcases List.mem_append.1 hx with hx | hx
   ·obtain⟨p,hp,rfl⟩:=List.mem_map.1 hx
    exact(ff p hp).2
   rcases List.mem_append.1 hx with hx | hx
   ·obtain⟨p,hp,rfl⟩:=List.mem_map.1 hx
    exact(fsn p hp).2
   ·obtain⟨p,hp,rfl⟩:=List.mem_map.1 hx
    exact(fk p hp).2
theorem L7{r:Reach}{b0:Nat}{v:Value}{d:DataW H}{ps:List MemPlace}(hval:Value.okWide Tryz.prog w r b0 32 v)(h:DataW.Trod enc Tryz.prog w base spare held 32 v d ps):
  ∃ (x:Ed) (cs:List Value),v=.agg cs.toArray/\Fits w (Old w) (ed x) cs/\x.Fine:=by
 obtain⟨cs,rfl,_⟩:=okWide_struct Tryz.underlying32 hval
 obtain⟨fuel,hf⟩:=h
 obtain⟨x,hx,hF⟩:=TT fuel _ _ hf
 refine⟨x,cs.toList,by simp,?_,hF⟩
 simpa[Value.cells]using hx
end
end
end Go.Proofs.YtojdpgeeajaojaaGreat
