/- Part 16. Conditions: as each theorem says. -/
import Derived.Test.YtecfdcdkkgmkpaaIS15
import Derived.Test.YtecfdcdkkgmkpaaProg
set_option maxRecDepth 100000
namespace Go.Proofs.Ytecfdcdkkgmkpaa
open Go.RowKit
theorem VSm.short{n:Nat}{v:Vl}(h:VSm n v)(hn:n<=80):B6 v:=h.le hn
def CT:Vl:=.mk 0 0 [] [] [] [] []
theorem DO:B6 CT:=by
 unfold B6
 rw[C1]
 simp[CT,Vl.list,Vl.fields,Vl.pairs,lnodes,fnodes,pnodes]
theorem DK:DG CT=true:=by simp[DG,CT,vright,fright,lright,pright,vplain,Vl.kind,Vl.num,Vl.text,Vl.fields,Vl.rest,Vl.list,Vl.pairs]
def CD(e:Ed):Ed:=
 if e.kind=1 then .mk e.kind CT CT e.fields e.rests e.ro e.rn e.steps e.keys
 else if e.kind=2 then .mk e.kind e.old e.new [] false [] [] e.steps e.keys
 else if e.kind=3 then .mk e.kind e.old e.new e.fields e.rests e.ro e.rn [] e.keys
 else if e.kind=4 then .mk e.kind e.old e.new e.fields e.rests e.ro e.rn e.steps []
 else e
def U1(e:Ed):Prop:=EF Try.prog [] 34 [pP (ed e)] (.part (tP (DT e)))
theorem O7(e:Ed):(DG (CD e).old&&DG (CD e).new&&decide (((CD e).fields.length:Int)=0) && !(CD e).rests&&decide ((CD e).ro=[])&&decide ((CD e).rn=[])&&decide (((CD e).steps.length:Int)=0)&&decide (((CD e).keys.length:Int)=0))=DT e:=by
 have hl:∀ {α:Type} (l:List α),decide ((l.length:Int)=0)=l.isEmpty:=fun l=>by
  cases l with
  | nil=>rfl
  | cons x l=>exact decide_eq_false (by simp only[List.length_cons];omega)
 have he:∀ l:List UInt8,decide (l=[])=l.isEmpty:=fun l=>by cases l<;>rfl
 simp only[hl,he]
 unfold CD DT
 by_cases k1:e.kind=1
 ·simp[k1,Ed.old,Ed.new,Ed.fields,Ed.rests,Ed.ro,Ed.rn,Ed.steps,Ed.keys,DK,Bool.and_assoc]
 by_cases k2:e.kind=2
 ·simp[k2,Ed.old,Ed.new,Ed.fields,Ed.rests,Ed.ro,Ed.rn,Ed.steps,Ed.keys,Bool.and_assoc]
 by_cases k3:e.kind=3
 ·simp[k3,Ed.old,Ed.new,Ed.fields,Ed.rests,Ed.ro,Ed.rn,Ed.steps,Ed.keys,Bool.and_assoc]
 by_cases k4:e.kind=4
 ·simp[k4,Ed.old,Ed.new,Ed.fields,Ed.rests,Ed.ro,Ed.rn,Ed.steps,Ed.keys,Bool.and_assoc]
 simp[k1,k2,k3,k4,Bool.and_assoc]
theorem OH{e:Ed}(h1:B6 e.old)(h2:B6 e.new):B6 (CD e).old/\B6 (CD e).new:=by
 unfold CD
 split
 ·exact⟨DO,DO⟩
 repeat' split
 all_goals exact⟨h1,h2⟩
set_option maxHeartbeats 2000000 in
theorem NK(e:Ed)(h1:B6 e.old)(h2:B6 e.new):U1 e:=by
 unfold U1
 obtain⟨g1,g2⟩:=OH h1 h2
 have q:=O7 e
 refine AF 70 Try.func34 rfl rfl rfl fun w D=>?_
 try refine A1 ?_
 refine BK 0 rfl (Imp.pref_ref _) ?_
 refine A0 (AC rfl rfl rfl rfl rfl .nil) ?_
 try refine A1 ?_
 refine AG ?_
 refine BE ?_
 refine AK (AJ rfl (kn rfl)) ?_
 refine AK (AO rfl (kn rfl) agg_32 sz_32) ?_
 refine BB 3 [.is (.int .i64 0),.is (.int .i64 0),.is (.int .u64 0),.is (.string ⟨#[]⟩),.is (.slice none 0 0),.is (.string ⟨#[]⟩),.is (.slice none 0 0),.is (.slice none 0 0),.is (.int .i64 0),.is (.int .u64 0),.is (.string ⟨#[]⟩),.is (.slice none 0 0),.is (.string ⟨#[]⟩),.is (.slice none 0 0),.is (.slice none 0 0),.is (.slice none 0 0),.is (.bool false),.is (.string ⟨#[]⟩),.is (.string ⟨#[]⟩),.is (.slice none 0 0),.is (.slice none 0 0)] rfl rfl rfl rfl zr_32 (fun w D M V=>⟨rfl,fun j x v h1 h2=>BA _ h1 h2 rfl⟩) rfl rfl rfl rfl ?_
 refine B2 rfl rfl rfl (kn rfl) rfl (kn rfl) rfl rfl sz_32 ?_
 refine AD ?_
 try refine A1 ?_
 refine A0 (A8 rfl rfl rfl rfl rfl (A4 rfl rfl rfl (AJ rfl (kn rfl)) (A4 rfl rfl rfl (AA rfl (kn rfl) off_32_0) (A4 rfl rfl rfl (AI rfl (kn rfl) one_3) .nil)))) ?_
 refine MT (ι:=Unit) (fun _=>[(3,.box 3 0)]) (fun _=>[(3,⟨32,bcs (ed (CD e))⟩)]) (fun _=>[]) ?_ (fun _=>?_)
 ·try refine A1 ?_
  refine A0 (A4 rfl rfl rfl (A6 rfl (kn rfl) (kn rfl) AL) (AC rfl rfl rfl rfl rfl .nil)) ?_
  try refine A1 ?_
  refine AB rfl (fun k1=>?_) (fun k1=>?_)
  ·have o:CD e=.mk e.kind CT CT e.fields e.rests e.ro e.rn e.steps e.keys:=if_pos (of_decide_eq_true k1)
   try refine A1 ?_
   refine AG ?_
   refine AK (DZ (ds:=[_,_,_,.row 8 0 [],_,.row 7 0 [],.row 14 0 []]) [] rfl trivial rfl pl_27 zr_27 (fun w D=>.cons (.cell _) (.cons (.cell _) (.cons (.cell _) (.cons (.none _ _ _) (.cons (.cell _) (.cons (.none _ _ _) (.cons (.none _ _ _) (.nil _ _)))))))) rfl) ?_
   refine AK (DZ (ds:=[_,_,_,.row 8 0 [],_,.row 7 0 [],.row 14 0 []]) [] rfl trivial rfl pl_27 zr_27 (fun w D=>.cons (.cell _) (.cons (.cell _) (.cons (.cell _) (.cons (.none _ _ _) (.cons (.cell _) (.cons (.none _ _ _) (.cons (.none _ _ _) (.nil _ _)))))))) rfl) ?_
   refine AK (A3 rfl (kn rfl) off_32_1) ?_
   refine FW rfl rfl rfl (kn rfl) rfl (kn rfl) rfl rfl sz_27 rfl ?_
   refine AK (A3 rfl (kn rfl) off_32_2) ?_
   refine FW rfl rfl rfl (kn rfl) rfl (kn rfl) rfl rfl sz_27 rfl ?_
   refine AD ?_
   try refine A1 ?_
   refine DB () (fun K=>AM ⟨s_t,trivial⟩ (by rw[o];exact⟨s_b,trivial⟩) trivial)
  have n1:=of_decide_eq_false k1
  try refine A1 ?_
  refine A0 (A4 rfl rfl rfl (A6 rfl (kn rfl) (kn rfl) AL) (AC rfl rfl rfl rfl rfl .nil)) ?_
  try refine A1 ?_
  refine AB rfl (fun k2=>?_) (fun k2=>?_)
  ·have o:CD e=.mk e.kind e.old e.new [] false [] [] e.steps e.keys:=(if_neg n1).trans (if_pos (of_decide_eq_true k2))
   try refine A1 ?_
   refine AG ?_
   refine AK (A3 rfl (kn rfl) off_32_3) ?_
   refine BU rfl rfl rfl (kn rfl) rfl (kn rfl) rfl rfl sz_28 rfl ?_
   refine AK (A3 rfl (kn rfl) off_32_4) ?_
   refine BU rfl rfl rfl (kn rfl) rfl (kn rfl) rfl rfl sz_4 rfl ?_
   refine AK (A3 rfl (kn rfl) off_32_5) ?_
   refine BU rfl rfl rfl (kn rfl) rfl (kn rfl) rfl rfl sz_9 rfl ?_
   refine AK (A3 rfl (kn rfl) off_32_6) ?_
   refine BU rfl rfl rfl (kn rfl) rfl (kn rfl) rfl rfl sz_9 rfl ?_
   refine AD ?_
   try refine A1 ?_
   refine DB () (fun K=>AM ⟨s_t,trivial⟩ (by rw[o];exact⟨⟨_,rfl,rfl,by repeat' first | exact trivial | refine And.intro (by first | exact Imp.refl _ | exact Imp.nil _) ?_⟩,trivial⟩) trivial)
  have n2:=of_decide_eq_false k2
  try refine A1 ?_
  refine A0 (A4 rfl rfl rfl (A6 rfl (kn rfl) (kn rfl) AL) (AC rfl rfl rfl rfl rfl .nil)) ?_
  try refine A1 ?_
  refine AB rfl (fun k3=>?_) (fun k3=>?_)
  ·have o:CD e=.mk e.kind e.old e.new e.fields e.rests e.ro e.rn [] e.keys:=(if_neg n1).trans ((if_neg n2).trans (if_pos (of_decide_eq_true k3)))
   try refine A1 ?_
   refine AG ?_
   refine AK (A3 rfl (kn rfl) off_32_7) ?_
   refine BU rfl rfl rfl (kn rfl) rfl (kn rfl) rfl rfl sz_29 rfl ?_
   refine AD ?_
   try refine A1 ?_
   refine DB () (fun K=>AM ⟨s_t,trivial⟩ (by rw[o];exact⟨⟨_,rfl,rfl,by repeat' first | exact trivial | refine And.intro (by first | exact Imp.refl _ | exact Imp.nil _) ?_⟩,trivial⟩) trivial)
  have n3:=of_decide_eq_false k3
  try refine A1 ?_
  refine A0 (A4 rfl rfl rfl (A6 rfl (kn rfl) (kn rfl) AL) (AC rfl rfl rfl rfl rfl .nil)) ?_
  try refine A1 ?_
  refine AB rfl (fun k4=>?_) (fun k4=>?_)
  ·have o:CD e=.mk e.kind e.old e.new e.fields e.rests e.ro e.rn e.steps []:=(if_neg n1).trans ((if_neg n2).trans ((if_neg n3).trans (if_pos (of_decide_eq_true k4))))
   try refine A1 ?_
   refine AG ?_
   refine AK (A3 rfl (kn rfl) off_32_8) ?_
   refine BU rfl rfl rfl (kn rfl) rfl (kn rfl) rfl rfl sz_30 rfl ?_
   refine AD ?_
   try refine A1 ?_
   refine DB () (fun K=>AM ⟨s_t,trivial⟩ (by rw[o];exact⟨⟨_,rfl,rfl,by repeat' first | exact trivial | refine And.intro (by first | exact Imp.refl _ | exact Imp.nil _) ?_⟩,trivial⟩) trivial)
  have n4:=of_decide_eq_false k4
  have o:CD e=e:=(if_neg n1).trans ((if_neg n2).trans ((if_neg n3).trans (if_neg n4)))
  try refine A1 ?_
  refine DB () (fun K=>AM ⟨s_t,trivial⟩ (by rw[o];exact⟨s_b,trivial⟩) trivial)
 try refine A1 ?_
 refine A0 (A4 rfl rfl rfl (A3 rfl (kn rfl) off_32_1) (A4 rfl rfl rfl (A9 (ds:=[_,_,_,_,_,_,_]) 7 rfl (kn rfl) rfl rfl agg_27 sz_27 rfl) (A4 rfl rfl rfl (AH rfl (by kernel_rfl) (JU _ g1) ⟨(kn rfl),trivial⟩) (A8 rfl rfl rfl rfl rfl (Walk.gd _ rfl rfl rfl (fun h=>A3 rfl (kn rfl) off_32_2) (Walk.gd _ rfl rfl rfl (fun h=>A9 (ds:=[_,_,_,_,_,_,_]) 7 rfl (A2 rfl h) rfl rfl agg_27 sz_27 rfl) (Walk.gd _ rfl rfl rfl (fun h=>AH rfl (by kernel_rfl) (JU _ g2) ⟨(A2 rfl h),trivial⟩) (A4 rfl rfl rfl (AN rfl (kn rfl) (fun hb=>A2 rfl hb)) (A8 rfl rfl rfl rfl rfl (Walk.gd _ rfl rfl rfl (fun h=>A3 rfl (kn rfl) off_32_3) (Walk.gd _ rfl rfl rfl (fun h=>A5 rfl (A2 rfl h) rfl rfl one_28) (Walk.gd _ rfl rfl rfl (fun h=>AY rfl (A2 rfl h) sle_28) (Walk.gd _ rfl rfl rfl (fun h=>A6 rfl (A2 rfl h) (kn rfl) AL) (A4 rfl rfl rfl (AN rfl (kn rfl) (fun hb=>A2 rfl hb)) (A8 rfl rfl rfl rfl rfl (Walk.gd _ rfl rfl rfl (fun h=>A3 rfl (kn rfl) off_32_4) (Walk.gd _ rfl rfl rfl (fun h=>A5 rfl (A2 rfl h) rfl rfl one_4) (Walk.gd _ rfl rfl rfl (fun h=>DL rfl (A2 rfl h)) (A4 rfl rfl rfl (AN rfl (kn rfl) (fun hb=>A2 rfl hb)) (A8 rfl rfl rfl rfl rfl (Walk.gd _ rfl rfl rfl (fun h=>A3 rfl (kn rfl) off_32_5) (Walk.gd _ rfl rfl rfl (fun h=>A5 rfl (A2 rfl h) rfl rfl one_9) (Walk.gd _ rfl rfl rfl (fun h=>A6 rfl (A2 rfl h) (kn rfl) (CS (b:=[]))) (A4 rfl rfl rfl (AN rfl (kn rfl) (fun hb=>A2 rfl hb)) (A8 rfl rfl rfl rfl rfl (Walk.gd _ rfl rfl rfl (fun h=>A3 rfl (kn rfl) off_32_6) (Walk.gd _ rfl rfl rfl (fun h=>A5 rfl (A2 rfl h) rfl rfl one_9) (Walk.gd _ rfl rfl rfl (fun h=>A6 rfl (A2 rfl h) (kn rfl) (CS (b:=[]))) (A4 rfl rfl rfl (AN rfl (kn rfl) (fun hb=>A2 rfl hb)) (A8 rfl rfl rfl rfl rfl (Walk.gd _ rfl rfl rfl (fun h=>A3 rfl (kn rfl) off_32_7) (Walk.gd _ rfl rfl rfl (fun h=>A5 rfl (A2 rfl h) rfl rfl one_29) (Walk.gd _ rfl rfl rfl (fun h=>AY rfl (A2 rfl h) sle_29) (Walk.gd _ rfl rfl rfl (fun h=>A6 rfl (A2 rfl h) (kn rfl) AL) (A4 rfl rfl rfl (AN rfl (kn rfl) (fun hb=>A2 rfl hb)) (A8 rfl rfl rfl rfl rfl (Walk.gd _ rfl rfl rfl (fun h=>A3 rfl (kn rfl) off_32_8) (Walk.gd _ rfl rfl rfl (fun h=>A5 rfl (A2 rfl h) rfl rfl one_30) (Walk.gd _ rfl rfl rfl (fun h=>AY rfl (A2 rfl h) sle_30) (Walk.gd _ rfl rfl rfl (fun h=>A6 rfl (A2 rfl h) (kn rfl) AL) (A4 rfl rfl rfl (AN rfl (kn rfl) (fun hb=>A2 rfl hb)) (AC rfl rfl rfl rfl rfl .nil)))))))))))))))))))))))))))))))))))))))))) ?_
 try refine A1 ?_
 exact A7 rfl rfl (.tmp (kn rfl) (.nil)) (AT q) rfl
def EC:Ed:=.mk 0 CT CT [] false [] [] [] []
def D1(s:(Int×Int×Vl)×Ed):(Int×Int×Vl)×Ed:=
 if s.1.1=1 then((s.1.1,0,s.1.2.2),s.2)
 else if s.1.1=2\/s.1.1=3 then((s.1.1,s.1.2.1,CT),s.2)
 else if s.1.1=4 then(s.1,EC)
 else s
def RU(s:(Int×Int×Vl)×Ed):Bool:=decide ((D1 s).1.2.1=0)&&DG (D1 s).1.2.2&&decide ((D1 s).2.kind=0)&&DT (D1 s).2
theorem M7{s:(Int×Int×Vl)×Ed}(h1:B6 s.1.2.2)(h2:B6 s.2.old)(h3:B6 s.2.new):B6 (D1 s).1.2.2/\B6 (D1 s).2.old/\B6 (D1 s).2.new:=by
 unfold D1
 split
 ·exact⟨h1,h2,h3⟩
 split
 ·exact⟨DO,h2,h3⟩
 split
 ·exact⟨h1,DO,DO⟩
 ·exact⟨h1,h2,h3⟩
set_option maxHeartbeats 2000000 in
theorem SF(s:(Int×Int×Vl)×Ed)(h1:B6 s.1.2.2)(h2:B6 s.2.old)(h3:B6 s.2.new):EF Try.prog [] 90 [pP (esd s)] (.part (tP (RU s))):=by
 obtain⟨g1,g2,g3⟩:=M7 h1 h2 h3
 refine AF 41 Try.func90 rfl rfl rfl fun w D=>?_
 try refine A1 ?_
 refine BK 0 rfl (Imp.pref_ref _) ?_
 refine A0 (AC rfl rfl rfl rfl rfl .nil) ?_
 try refine A1 ?_
 refine AG ?_
 refine BE ?_
 refine AK (AJ rfl (kn rfl)) ?_
 refine AK (AO rfl (kn rfl) agg_76 sz_76) ?_
 refine BB 3 [.is (.int .i64 0),.is (.int .i64 0),.is (.int .i64 0),.is (.int .u64 0),.is (.string ⟨#[]⟩),.is (.slice none 0 0),.is (.string ⟨#[]⟩),.is (.slice none 0 0),.is (.slice none 0 0),.is (.int .i64 0),.is (.int .i64 0),.is (.int .u64 0),.is (.string ⟨#[]⟩),.is (.slice none 0 0),.is (.string ⟨#[]⟩),.is (.slice none 0 0),.is (.slice none 0 0),.is (.int .i64 0),.is (.int .u64 0),.is (.string ⟨#[]⟩),.is (.slice none 0 0),.is (.string ⟨#[]⟩),.is (.slice none 0 0),.is (.slice none 0 0),.is (.slice none 0 0),.is (.bool false),.is (.string ⟨#[]⟩),.is (.string ⟨#[]⟩),.is (.slice none 0 0),.is (.slice none 0 0)] rfl rfl rfl rfl zr_76 (fun w D M V=>⟨rfl,fun j x v h1 h2=>BA _ h1 h2 rfl⟩) rfl rfl rfl rfl ?_
 refine B2 rfl rfl rfl (kn rfl) rfl (kn rfl) rfl rfl sz_76 ?_
 refine AD ?_
 try refine A1 ?_
 refine A0 (A8 rfl rfl rfl rfl rfl (A4 rfl rfl rfl (AJ rfl (kn rfl)) (A4 rfl rfl rfl (AA rfl (kn rfl) off_76_0) (A4 rfl rfl rfl (AI rfl (kn rfl) one_3) .nil)))) ?_
 refine MT (ι:=Unit) (fun _=>[(3,.box 3 0)]) (fun _=>[(3,⟨76,bcs (esd (D1 s))⟩)]) (fun _=>[]) ?_ (fun _=>?_)
 ·try refine A1 ?_
  refine A0 (A4 rfl rfl rfl (A6 rfl (kn rfl) (kn rfl) AL) (AC rfl rfl rfl rfl rfl .nil)) ?_
  try refine A1 ?_
  refine AB rfl (fun k1=>?_) (fun k1=>?_)
  ·have o:D1 s=((s.1.1,0,s.1.2.2),s.2):=if_pos (of_decide_eq_true k1)
   try refine A1 ?_
   refine AG ?_
   refine AK (A3 rfl (kn rfl) off_76_1) ?_
   refine BU rfl rfl rfl (kn rfl) rfl (kn rfl) rfl rfl sz_3 rfl ?_
   refine AD ?_
   try refine A1 ?_
   refine DB () (fun K=>AM ⟨s_t,trivial⟩ (by rw[o];exact⟨s_b,trivial⟩) trivial)
  have n1:=of_decide_eq_false k1
  try refine A1 ?_
  refine A0 (A4 rfl rfl rfl (A6 rfl (kn rfl) (kn rfl) AL) (AC rfl rfl rfl rfl rfl .nil)) ?_
  try refine A1 ?_
  refine MT (ι:=Unit) (fun _=>[(3,.box 3 0),(10,.is (.int .i64 s.1.1)),(14,.is (.bool (decide (s.1.1=2\/s.1.1=3))))]) (fun _=>[(3,⟨76,bcs (esd s)⟩)]) (fun _=>[]) ?_ (fun _=>?_)
  ·refine AB rfl (fun s2=>?_) (fun s2=>?_)
   ·try refine A1 ?_
    refine DB () (fun K=>AM ⟨s_t,s_t,⟨_,rfl,Imp.of_eq (by rw[decide_eq_true (Or.inl (of_decide_eq_true s2)),s2])⟩,trivial⟩ ⟨s_b,trivial⟩ trivial)
   try refine A1 ?_
   refine A0 (A4 rfl rfl rfl (A6 rfl (kn rfl) (kn rfl) AL) (AC rfl rfl rfl rfl rfl .nil)) ?_
   try refine A1 ?_
   refine DB () (fun K=>AM ⟨s_t,s_t,⟨_,rfl,Imp.of_eq (by have:=of_decide_eq_false s2;simp[this])⟩,trivial⟩ ⟨s_b,trivial⟩ trivial)
  try refine A1 ?_
  refine AB rfl (fun k2=>?_) (fun k2=>?_)
  ·have o:D1 s=((s.1.1,s.1.2.1,CT),s.2):=(if_neg n1).trans (if_pos (of_decide_eq_true k2))
   try refine A1 ?_
   refine AG ?_
   refine AK (DZ (ds:=[_,_,_,.row 8 0 [],_,.row 7 0 [],.row 14 0 []]) [] rfl trivial rfl pl_27 zr_27 (fun w D=>.cons (.cell _) (.cons (.cell _) (.cons (.cell _) (.cons (.none _ _ _) (.cons (.cell _) (.cons (.none _ _ _) (.cons (.none _ _ _) (.nil _ _)))))))) rfl) ?_
   refine AK (A3 rfl (kn rfl) off_76_2) ?_
   refine FW rfl rfl rfl (kn rfl) rfl (kn rfl) rfl rfl sz_27 rfl ?_
   refine AD ?_
   try refine A1 ?_
   refine DB () (fun K=>AM ⟨s_t,trivial⟩ (by rw[o];exact⟨s_b,trivial⟩) trivial)
  have n2:=of_decide_eq_false k2
  try refine A1 ?_
  refine A0 (A4 rfl rfl rfl (A6 rfl (kn rfl) (kn rfl) AL) (AC rfl rfl rfl rfl rfl .nil)) ?_
  try refine A1 ?_
  refine AB rfl (fun k4=>?_) (fun k4=>?_)
  ·have o:D1 s=(s.1,EC):=(if_neg n1).trans ((if_neg n2).trans (if_pos (of_decide_eq_true k4)))
   try refine A1 ?_
   refine AG ?_
   refine AK (DZ (ds:=[_,_,_,_,.row 8 0 [],_,.row 7 0 [],.row 14 0 [],_,_,_,.row 8 0 [],_,.row 7 0 [],.row 14 0 [],.row 22 0 [],_,_,_,.row 30 0 [],.row 28 0 []]) [] rfl trivial rfl pl_32 zr_32 (fun w D=>.cons (.cell _) (.cons (.cell _) (.cons (.cell _) (.cons (.cell _) (.cons (.none _ _ _) (.cons (.cell _) (.cons (.none _ _ _) (.cons (.none _ _ _) (.cons (.cell _) (.cons (.cell _) (.cons (.cell _) (.cons (.none _ _ _) (.cons (.cell _) (.cons (.none _ _ _) (.cons (.none _ _ _) (.cons (.none _ _ _) (.cons (.cell _) (.cons (.cell _) (.cons (.cell _) (.cons (.none _ _ _) (.cons (.none _ _ _) (.nil _ _)))))))))))))))))))))) rfl) ?_
   refine AK (A3 rfl (kn rfl) off_76_3) ?_
   refine FW rfl rfl rfl (kn rfl) rfl (kn rfl) rfl rfl sz_32 rfl ?_
   refine AD ?_
   try refine A1 ?_
   refine DB () (fun K=>AM ⟨s_t,trivial⟩ (by rw[o];exact⟨s_b,trivial⟩) trivial)
  have n4:=of_decide_eq_false k4
  have o:D1 s=s:=(if_neg n1).trans ((if_neg n2).trans (if_neg n4))
  try refine A1 ?_
  refine DB () (fun K=>AM ⟨s_t,trivial⟩ (by rw[o];exact⟨s_b,trivial⟩) trivial)
 try refine A1 ?_
 refine SP 3 3 rfl rfl rfl ?_
 refine BK 3 rfl (Imp.ptr_ref _ _) ?_
 refine A0 (A4 rfl rfl rfl (AA rfl (kn rfl) off_76_1) (A4 rfl rfl rfl (AI rfl (kn rfl) one_3) (A4 rfl rfl rfl (A6 rfl (kn rfl) (kn rfl) AL) (A8 rfl rfl rfl rfl rfl (Walk.gd _ rfl rfl rfl (fun h=>AA rfl (kn rfl) off_76_2) (Walk.gd _ rfl rfl rfl (fun h=>BI (vd (D1 s).1.2.2) 7 rfl (A2 rfl h) agg_27 sz_27 rfl rfl) (Walk.gd _ rfl rfl rfl (fun h=>AH rfl (by kernel_rfl) (JU _ g1) ⟨(A2 rfl h),trivial⟩) (A4 rfl rfl rfl (AN rfl (kn rfl) (fun hb=>A2 rfl hb)) (A8 rfl rfl rfl rfl rfl (Walk.gd _ rfl rfl rfl (fun h=>AA rfl (kn rfl) off_76_3) (Walk.gd _ rfl rfl rfl (fun h=>AA rfl (A2 rfl h) off_32_0) (Walk.gd _ rfl rfl rfl (fun h=>AI rfl (A2 rfl h) one_3) (Walk.gd _ rfl rfl rfl (fun h=>A6 rfl (A2 rfl h) (kn rfl) AL) (A4 rfl rfl rfl (AN rfl (kn rfl) (fun hb=>A2 rfl hb)) (A8 rfl rfl rfl rfl rfl (Walk.gd _ rfl rfl rfl (fun h=>AA rfl (kn rfl) off_76_3) (Walk.gd _ rfl rfl rfl (fun h=>AH rfl (by kernel_rfl) (NK _ g2 g3) ⟨C5 (A2 rfl h) (Imp.ref_pref _),trivial⟩) (A4 rfl rfl rfl (AN rfl (kn rfl) (fun hb=>A2 rfl hb)) (AC rfl rfl rfl rfl rfl .nil))))))))))))))))))) ?_
 try refine A1 ?_
 exact A7 rfl rfl (.tmp (kn rfl) (.nil)) (AT rfl) rfl
end Go.Proofs.Ytecfdcdkkgmkpaa
