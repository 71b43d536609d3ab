/- Part 16. Conditions: as each theorem says. -/
import Derived.Test.YtojdpgeeajaojaaES15
import Derived.Test.YtojdpgeeajaojaaProg
set_option maxRecDepth 100000
namespace Go.Proofs.Ytojdpgeeajaojaa
open Go.RowKit
theorem VSm.short{n:Nat}{v:Vl}(h:VSm n v)(hn:n<=80):AU v:=h.le hn
def BN:Vl:=.mk 0 0 [] [] [] [] []
theorem CN:AU BN:=by
 unfold AU
 rw[BV]
 simp[BN,Vl.list,Vl.fields,Vl.pairs,lnodes,fnodes,pnodes]
theorem E5:E0 BN=true:=by simp[E0,BN,vright,fright,lright,pright,vplain,Vl.kind,Vl.num,Vl.text,Vl.fields,Vl.rest,Vl.list,Vl.pairs]
def BX(e:Ed):Ed:=
 if e.kind=1 then .mk e.kind BN BN e.fields e.rests e.ro e.rn e.steps e.keys
 else if e.kind=2 then .mk e.kind e.old e.new [] false [] [] e.steps e.keys
 else if e.kind=3 then .mk e.kind e.old e.new e.fields e.rests e.ro e.rn [] e.keys
 else if e.kind=4 then .mk e.kind e.old e.new e.fields e.rests e.ro e.rn e.steps []
 else e
def PH(e:Ed):Prop:=EF Try.prog [] 32 [pP (ed e)] (.part (tP (DK e)))
theorem JT(e:Ed):(E0 (BX e).old&&E0 (BX e).new&&decide (((BX e).fields.length:Int)=0) && !(BX e).rests&&decide ((BX e).ro=[])&&decide ((BX e).rn=[])&&decide (((BX e).steps.length:Int)=0)&&decide (((BX e).keys.length:Int)=0))=DK e:=by
 have hl:∀ {α:Type} (l:List α),decide ((l.length:Int)=0)=l.isEmpty:=fun l=>by
  cases l with
  | nil=>rfl
  | cons x l=>exact decide_eq_false (by simp only[List.length_cons];omega)
 have he:∀ l:List UInt8,decide (l=[])=l.isEmpty:=fun l=>by cases l<;>rfl
 simp only[hl,he]
 unfold BX DK
 by_cases k1:e.kind=1
 ·simp[k1,Ed.old,Ed.new,Ed.fields,Ed.rests,Ed.ro,Ed.rn,Ed.steps,Ed.keys,E5,Bool.and_assoc]
 by_cases k2:e.kind=2
 ·simp[k2,Ed.old,Ed.new,Ed.fields,Ed.rests,Ed.ro,Ed.rn,Ed.steps,Ed.keys,Bool.and_assoc]
 by_cases k3:e.kind=3
 ·simp[k3,Ed.old,Ed.new,Ed.fields,Ed.rests,Ed.ro,Ed.rn,Ed.steps,Ed.keys,Bool.and_assoc]
 by_cases k4:e.kind=4
 ·simp[k4,Ed.old,Ed.new,Ed.fields,Ed.rests,Ed.ro,Ed.rn,Ed.steps,Ed.keys,Bool.and_assoc]
 simp[k1,k2,k3,k4,Bool.and_assoc]
theorem KF{e:Ed}(h1:AU e.old)(h2:AU e.new):AU (BX e).old/\AU (BX e).new:=by
 unfold BX
 split
 ·exact⟨CN,CN⟩
 repeat' split
 all_goals exact⟨h1,h2⟩
set_option maxHeartbeats 2000000 in
theorem K5(e:Ed)(h1:AU e.old)(h2:AU e.new):PH e:=by
 unfold PH
 obtain⟨g1,g2⟩:=KF h1 h2
 have q:=JT e
 refine AF 70 Try.func32 rfl rfl rfl fun w D=>?_
 try refine A2 ?_
 refine B2 0 rfl (Imp.pref_ref _) ?_
 refine A0 (AD rfl rfl rfl rfl rfl .nil) ?_
 try refine A2 ?_
 refine AI ?_
 refine E7 ?_
 refine AV (AA rfl (kn rfl)) ?_
 refine AV (AR rfl (kn rfl) agg_35 sz_35) ?_
 refine B6 3 [.is (.int .i64 0),.is (.int .i64 0),.is (.int .u64 0),.is (.string ⟨#[]⟩),.is (.slice none 0 0),.is (.string ⟨#[]⟩),.is (.slice none 0 0),.is (.slice none 0 0),.is (.int .i64 0),.is (.int .u64 0),.is (.string ⟨#[]⟩),.is (.slice none 0 0),.is (.string ⟨#[]⟩),.is (.slice none 0 0),.is (.slice none 0 0),.is (.slice none 0 0),.is (.bool false),.is (.string ⟨#[]⟩),.is (.string ⟨#[]⟩),.is (.slice none 0 0),.is (.slice none 0 0)] rfl rfl rfl rfl zr_35 (fun w D M V=>⟨rfl,fun j x v h1 h2=>B7 _ h1 h2 rfl⟩) rfl rfl rfl rfl ?_
 refine B4 rfl rfl rfl (kn rfl) rfl (kn rfl) rfl rfl sz_35 ?_
 refine AN ?_
 try refine A2 ?_
 refine A0 (A8 rfl rfl rfl rfl rfl (A3 rfl rfl rfl (AA rfl (kn rfl)) (A3 rfl rfl rfl (A5 rfl (kn rfl) off_35_0) (A3 rfl rfl rfl (AC rfl (kn rfl) one_3) .nil)))) ?_
 refine JL (ι:=Unit) (fun _=>[(3,.box 3 0)]) (fun _=>[(3,⟨35,bcs (ed (BX e))⟩)]) (fun _=>[]) ?_ (fun _=>?_)
 ·try refine A2 ?_
  refine A0 (A3 rfl rfl rfl (A9 rfl (kn rfl) (kn rfl) AK) (AD rfl rfl rfl rfl rfl .nil)) ?_
  try refine A2 ?_
  refine AE rfl (fun k1=>?_) (fun k1=>?_)
  ·have o:BX e=.mk e.kind BN BN e.fields e.rests e.ro e.rn e.steps e.keys:=if_pos (of_decide_eq_true k1)
   try refine A2 ?_
   refine AI ?_
   refine AV (CF (ds:=[_,_,_,.row 8 0 [],_,.row 7 0 [],.row 14 0 []]) [] rfl trivial rfl pl_27 zr_27 (fun w D=>.cons (.cell _) (.cons (.cell _) (.cons (.cell _) (.cons (.none _ _ _) (.cons (.cell _) (.cons (.none _ _ _) (.cons (.none _ _ _) (.nil _ _)))))))) rfl) ?_
   refine AV (CF (ds:=[_,_,_,.row 8 0 [],_,.row 7 0 [],.row 14 0 []]) [] rfl trivial rfl pl_27 zr_27 (fun w D=>.cons (.cell _) (.cons (.cell _) (.cons (.cell _) (.cons (.none _ _ _) (.cons (.cell _) (.cons (.none _ _ _) (.cons (.none _ _ _) (.nil _ _)))))))) rfl) ?_
   refine AV (A4 rfl (kn rfl) off_35_1) ?_
   refine EB rfl rfl rfl (kn rfl) rfl (kn rfl) rfl rfl sz_27 rfl ?_
   refine AV (A4 rfl (kn rfl) off_35_2) ?_
   refine EB rfl rfl rfl (kn rfl) rfl (kn rfl) rfl rfl sz_27 rfl ?_
   refine AN ?_
   try refine A2 ?_
   refine CE () (fun K=>AP ⟨s_t,trivial⟩ (by rw[o];exact⟨s_b,trivial⟩) trivial)
  have n1:=of_decide_eq_false k1
  try refine A2 ?_
  refine A0 (A3 rfl rfl rfl (A9 rfl (kn rfl) (kn rfl) AK) (AD rfl rfl rfl rfl rfl .nil)) ?_
  try refine A2 ?_
  refine AE rfl (fun k2=>?_) (fun k2=>?_)
  ·have o:BX e=.mk e.kind e.old e.new [] false [] [] e.steps e.keys:=(if_neg n1).trans (if_pos (of_decide_eq_true k2))
   try refine A2 ?_
   refine AI ?_
   refine AV (A4 rfl (kn rfl) off_35_3) ?_
   refine BF rfl rfl rfl (kn rfl) rfl (kn rfl) rfl rfl sz_31 rfl ?_
   refine AV (A4 rfl (kn rfl) off_35_4) ?_
   refine BF rfl rfl rfl (kn rfl) rfl (kn rfl) rfl rfl sz_4 rfl ?_
   refine AV (A4 rfl (kn rfl) off_35_5) ?_
   refine BF rfl rfl rfl (kn rfl) rfl (kn rfl) rfl rfl sz_9 rfl ?_
   refine AV (A4 rfl (kn rfl) off_35_6) ?_
   refine BF rfl rfl rfl (kn rfl) rfl (kn rfl) rfl rfl sz_9 rfl ?_
   refine AN ?_
   try refine A2 ?_
   refine CE () (fun K=>AP ⟨s_t,trivial⟩ (by rw[o];exact⟨⟨_,rfl,rfl,by repeat' first | exact trivial | refine And.intro (by first | exact Imp.refl _ | exact Imp.nil _) ?_⟩,trivial⟩) trivial)
  have n2:=of_decide_eq_false k2
  try refine A2 ?_
  refine A0 (A3 rfl rfl rfl (A9 rfl (kn rfl) (kn rfl) AK) (AD rfl rfl rfl rfl rfl .nil)) ?_
  try refine A2 ?_
  refine AE rfl (fun k3=>?_) (fun k3=>?_)
  ·have o:BX e=.mk e.kind e.old e.new e.fields e.rests e.ro e.rn [] e.keys:=(if_neg n1).trans ((if_neg n2).trans (if_pos (of_decide_eq_true k3)))
   try refine A2 ?_
   refine AI ?_
   refine AV (A4 rfl (kn rfl) off_35_7) ?_
   refine BF rfl rfl rfl (kn rfl) rfl (kn rfl) rfl rfl sz_32 rfl ?_
   refine AN ?_
   try refine A2 ?_
   refine CE () (fun K=>AP ⟨s_t,trivial⟩ (by rw[o];exact⟨⟨_,rfl,rfl,by repeat' first | exact trivial | refine And.intro (by first | exact Imp.refl _ | exact Imp.nil _) ?_⟩,trivial⟩) trivial)
  have n3:=of_decide_eq_false k3
  try refine A2 ?_
  refine A0 (A3 rfl rfl rfl (A9 rfl (kn rfl) (kn rfl) AK) (AD rfl rfl rfl rfl rfl .nil)) ?_
  try refine A2 ?_
  refine AE rfl (fun k4=>?_) (fun k4=>?_)
  ·have o:BX e=.mk e.kind e.old e.new e.fields e.rests e.ro e.rn e.steps []:=(if_neg n1).trans ((if_neg n2).trans ((if_neg n3).trans (if_pos (of_decide_eq_true k4))))
   try refine A2 ?_
   refine AI ?_
   refine AV (A4 rfl (kn rfl) off_35_8) ?_
   refine BF rfl rfl rfl (kn rfl) rfl (kn rfl) rfl rfl sz_33 rfl ?_
   refine AN ?_
   try refine A2 ?_
   refine CE () (fun K=>AP ⟨s_t,trivial⟩ (by rw[o];exact⟨⟨_,rfl,rfl,by repeat' first | exact trivial | refine And.intro (by first | exact Imp.refl _ | exact Imp.nil _) ?_⟩,trivial⟩) trivial)
  have n4:=of_decide_eq_false k4
  have o:BX e=e:=(if_neg n1).trans ((if_neg n2).trans ((if_neg n3).trans (if_neg n4)))
  try refine A2 ?_
  refine CE () (fun K=>AP ⟨s_t,trivial⟩ (by rw[o];exact⟨s_b,trivial⟩) trivial)
 try refine A2 ?_
 refine A0 (A3 rfl rfl rfl (A4 rfl (kn rfl) off_35_1) (A3 rfl rfl rfl (AB (ds:=[_,_,_,_,_,_,_]) 7 rfl (kn rfl) rfl rfl agg_27 sz_27 rfl) (A3 rfl rfl rfl (AG rfl (by kernel_rfl) (GV _ g1) ⟨(kn rfl),trivial⟩) (A8 rfl rfl rfl rfl rfl (Walk.gd _ rfl rfl rfl (fun h=>A4 rfl (kn rfl) off_35_2) (Walk.gd _ rfl rfl rfl (fun h=>AB (ds:=[_,_,_,_,_,_,_]) 7 rfl (A1 rfl h) rfl rfl agg_27 sz_27 rfl) (Walk.gd _ rfl rfl rfl (fun h=>AG rfl (by kernel_rfl) (GV _ g2) ⟨(A1 rfl h),trivial⟩) (A3 rfl rfl rfl (AJ rfl (kn rfl) (fun hb=>A1 rfl hb)) (A8 rfl rfl rfl rfl rfl (Walk.gd _ rfl rfl rfl (fun h=>A4 rfl (kn rfl) off_35_3) (Walk.gd _ rfl rfl rfl (fun h=>A6 rfl (A1 rfl h) rfl rfl one_31) (Walk.gd _ rfl rfl rfl (fun h=>AS rfl (A1 rfl h) sle_31) (Walk.gd _ rfl rfl rfl (fun h=>A9 rfl (A1 rfl h) (kn rfl) AK) (A3 rfl rfl rfl (AJ rfl (kn rfl) (fun hb=>A1 rfl hb)) (A8 rfl rfl rfl rfl rfl (Walk.gd _ rfl rfl rfl (fun h=>A4 rfl (kn rfl) off_35_4) (Walk.gd _ rfl rfl rfl (fun h=>A6 rfl (A1 rfl h) rfl rfl one_4) (Walk.gd _ rfl rfl rfl (fun h=>C1 rfl (A1 rfl h)) (A3 rfl rfl rfl (AJ rfl (kn rfl) (fun hb=>A1 rfl hb)) (A8 rfl rfl rfl rfl rfl (Walk.gd _ rfl rfl rfl (fun h=>A4 rfl (kn rfl) off_35_5) (Walk.gd _ rfl rfl rfl (fun h=>A6 rfl (A1 rfl h) rfl rfl one_9) (Walk.gd _ rfl rfl rfl (fun h=>A9 rfl (A1 rfl h) (kn rfl) (BW (b:=[]))) (A3 rfl rfl rfl (AJ rfl (kn rfl) (fun hb=>A1 rfl hb)) (A8 rfl rfl rfl rfl rfl (Walk.gd _ rfl rfl rfl (fun h=>A4 rfl (kn rfl) off_35_6) (Walk.gd _ rfl rfl rfl (fun h=>A6 rfl (A1 rfl h) rfl rfl one_9) (Walk.gd _ rfl rfl rfl (fun h=>A9 rfl (A1 rfl h) (kn rfl) (BW (b:=[]))) (A3 rfl rfl rfl (AJ rfl (kn rfl) (fun hb=>A1 rfl hb)) (A8 rfl rfl rfl rfl rfl (Walk.gd _ rfl rfl rfl (fun h=>A4 rfl (kn rfl) off_35_7) (Walk.gd _ rfl rfl rfl (fun h=>A6 rfl (A1 rfl h) rfl rfl one_32) (Walk.gd _ rfl rfl rfl (fun h=>AS rfl (A1 rfl h) sle_32) (Walk.gd _ rfl rfl rfl (fun h=>A9 rfl (A1 rfl h) (kn rfl) AK) (A3 rfl rfl rfl (AJ rfl (kn rfl) (fun hb=>A1 rfl hb)) (A8 rfl rfl rfl rfl rfl (Walk.gd _ rfl rfl rfl (fun h=>A4 rfl (kn rfl) off_35_8) (Walk.gd _ rfl rfl rfl (fun h=>A6 rfl (A1 rfl h) rfl rfl one_33) (Walk.gd _ rfl rfl rfl (fun h=>AS rfl (A1 rfl h) sle_33) (Walk.gd _ rfl rfl rfl (fun h=>A9 rfl (A1 rfl h) (kn rfl) AK) (A3 rfl rfl rfl (AJ rfl (kn rfl) (fun hb=>A1 rfl hb)) (AD rfl rfl rfl rfl rfl .nil)))))))))))))))))))))))))))))))))))))))))) ?_
 try refine A2 ?_
 exact A7 rfl rfl (.tmp (kn rfl) (.nil)) (AL q) rfl
def DB:Ed:=.mk 0 BN BN [] false [] [] [] []
def C5(s:(Int×Int×Vl)×Ed):(Int×Int×Vl)×Ed:=
 if s.1.1=1 then((s.1.1,0,s.1.2.2),s.2)
 else if s.1.1=2\/s.1.1=3 then((s.1.1,s.1.2.1,BN),s.2)
 else if s.1.1=4 then(s.1,DB)
 else s
def NZ(s:(Int×Int×Vl)×Ed):Bool:=decide ((C5 s).1.2.1=0)&&E0 (C5 s).1.2.2&&decide ((C5 s).2.kind=0)&&DK (C5 s).2
theorem J9{s:(Int×Int×Vl)×Ed}(h1:AU s.1.2.2)(h2:AU s.2.old)(h3:AU s.2.new):AU (C5 s).1.2.2/\AU (C5 s).2.old/\AU (C5 s).2.new:=by
 unfold C5
 split
 ·exact⟨h1,h2,h3⟩
 split
 ·exact⟨CN,h2,h3⟩
 split
 ·exact⟨h1,CN,CN⟩
 ·exact⟨h1,h2,h3⟩
set_option maxHeartbeats 2000000 in
theorem OP(s:(Int×Int×Vl)×Ed)(h1:AU s.1.2.2)(h2:AU s.2.old)(h3:AU s.2.new):EF Try.prog [] 71 [pP (esd s)] (.part (tP (NZ s))):=by
 obtain⟨g1,g2,g3⟩:=J9 h1 h2 h3
 refine AF 41 Try.func71 rfl rfl rfl fun w D=>?_
 try refine A2 ?_
 refine B2 0 rfl (Imp.pref_ref _) ?_
 refine A0 (AD rfl rfl rfl rfl rfl .nil) ?_
 try refine A2 ?_
 refine AI ?_
 refine E7 ?_
 refine AV (AA rfl (kn rfl)) ?_
 refine AV (AR rfl (kn rfl) agg_71 sz_71) ?_
 refine B6 3 [.is (.int .i64 0),.is (.int .i64 0),.is (.int .i64 0),.is (.int .u64 0),.is (.string ⟨#[]⟩),.is (.slice none 0 0),.is (.string ⟨#[]⟩),.is (.slice none 0 0),.is (.slice none 0 0),.is (.int .i64 0),.is (.int .i64 0),.is (.int .u64 0),.is (.string ⟨#[]⟩),.is (.slice none 0 0),.is (.string ⟨#[]⟩),.is (.slice none 0 0),.is (.slice none 0 0),.is (.int .i64 0),.is (.int .u64 0),.is (.string ⟨#[]⟩),.is (.slice none 0 0),.is (.string ⟨#[]⟩),.is (.slice none 0 0),.is (.slice none 0 0),.is (.slice none 0 0),.is (.bool false),.is (.string ⟨#[]⟩),.is (.string ⟨#[]⟩),.is (.slice none 0 0),.is (.slice none 0 0)] rfl rfl rfl rfl zr_71 (fun w D M V=>⟨rfl,fun j x v h1 h2=>B7 _ h1 h2 rfl⟩) rfl rfl rfl rfl ?_
 refine B4 rfl rfl rfl (kn rfl) rfl (kn rfl) rfl rfl sz_71 ?_
 refine AN ?_
 try refine A2 ?_
 refine A0 (A8 rfl rfl rfl rfl rfl (A3 rfl rfl rfl (AA rfl (kn rfl)) (A3 rfl rfl rfl (A5 rfl (kn rfl) off_71_0) (A3 rfl rfl rfl (AC rfl (kn rfl) one_3) .nil)))) ?_
 refine JL (ι:=Unit) (fun _=>[(3,.box 3 0)]) (fun _=>[(3,⟨71,bcs (esd (C5 s))⟩)]) (fun _=>[]) ?_ (fun _=>?_)
 ·try refine A2 ?_
  refine A0 (A3 rfl rfl rfl (A9 rfl (kn rfl) (kn rfl) AK) (AD rfl rfl rfl rfl rfl .nil)) ?_
  try refine A2 ?_
  refine AE rfl (fun k1=>?_) (fun k1=>?_)
  ·have o:C5 s=((s.1.1,0,s.1.2.2),s.2):=if_pos (of_decide_eq_true k1)
   try refine A2 ?_
   refine AI ?_
   refine AV (A4 rfl (kn rfl) off_71_1) ?_
   refine BF rfl rfl rfl (kn rfl) rfl (kn rfl) rfl rfl sz_3 rfl ?_
   refine AN ?_
   try refine A2 ?_
   refine CE () (fun K=>AP ⟨s_t,trivial⟩ (by rw[o];exact⟨s_b,trivial⟩) trivial)
  have n1:=of_decide_eq_false k1
  try refine A2 ?_
  refine A0 (A3 rfl rfl rfl (A9 rfl (kn rfl) (kn rfl) AK) (AD rfl rfl rfl rfl rfl .nil)) ?_
  try refine A2 ?_
  refine JL (ι:=Unit) (fun _=>[(3,.box 3 0),(10,.is (.int .i64 s.1.1)),(14,.is (.bool (decide (s.1.1=2\/s.1.1=3))))]) (fun _=>[(3,⟨71,bcs (esd s)⟩)]) (fun _=>[]) ?_ (fun _=>?_)
  ·refine AE rfl (fun s2=>?_) (fun s2=>?_)
   ·try refine A2 ?_
    refine CE () (fun K=>AP ⟨s_t,s_t,⟨_,rfl,Imp.of_eq (by rw[decide_eq_true (Or.inl (of_decide_eq_true s2)),s2])⟩,trivial⟩ ⟨s_b,trivial⟩ trivial)
   try refine A2 ?_
   refine A0 (A3 rfl rfl rfl (A9 rfl (kn rfl) (kn rfl) AK) (AD rfl rfl rfl rfl rfl .nil)) ?_
   try refine A2 ?_
   refine CE () (fun K=>AP ⟨s_t,s_t,⟨_,rfl,Imp.of_eq (by have:=of_decide_eq_false s2;simp[this])⟩,trivial⟩ ⟨s_b,trivial⟩ trivial)
  try refine A2 ?_
  refine AE rfl (fun k2=>?_) (fun k2=>?_)
  ·have o:C5 s=((s.1.1,s.1.2.1,BN),s.2):=(if_neg n1).trans (if_pos (of_decide_eq_true k2))
   try refine A2 ?_
   refine AI ?_
   refine AV (CF (ds:=[_,_,_,.row 8 0 [],_,.row 7 0 [],.row 14 0 []]) [] rfl trivial rfl pl_27 zr_27 (fun w D=>.cons (.cell _) (.cons (.cell _) (.cons (.cell _) (.cons (.none _ _ _) (.cons (.cell _) (.cons (.none _ _ _) (.cons (.none _ _ _) (.nil _ _)))))))) rfl) ?_
   refine AV (A4 rfl (kn rfl) off_71_2) ?_
   refine EB rfl rfl rfl (kn rfl) rfl (kn rfl) rfl rfl sz_27 rfl ?_
   refine AN ?_
   try refine A2 ?_
   refine CE () (fun K=>AP ⟨s_t,trivial⟩ (by rw[o];exact⟨s_b,trivial⟩) trivial)
  have n2:=of_decide_eq_false k2
  try refine A2 ?_
  refine A0 (A3 rfl rfl rfl (A9 rfl (kn rfl) (kn rfl) AK) (AD rfl rfl rfl rfl rfl .nil)) ?_
  try refine A2 ?_
  refine AE rfl (fun k4=>?_) (fun k4=>?_)
  ·have o:C5 s=(s.1,DB):=(if_neg n1).trans ((if_neg n2).trans (if_pos (of_decide_eq_true k4)))
   try refine A2 ?_
   refine AI ?_
   refine AV (CF (ds:=[_,_,_,_,.row 8 0 [],_,.row 7 0 [],.row 14 0 [],_,_,_,.row 8 0 [],_,.row 7 0 [],.row 14 0 [],.row 22 0 [],_,_,_,.row 30 0 [],.row 28 0 []]) [] rfl trivial rfl pl_35 zr_35 (fun w D=>.cons (.cell _) (.cons (.cell _) (.cons (.cell _) (.cons (.cell _) (.cons (.none _ _ _) (.cons (.cell _) (.cons (.none _ _ _) (.cons (.none _ _ _) (.cons (.cell _) (.cons (.cell _) (.cons (.cell _) (.cons (.none _ _ _) (.cons (.cell _) (.cons (.none _ _ _) (.cons (.none _ _ _) (.cons (.none _ _ _) (.cons (.cell _) (.cons (.cell _) (.cons (.cell _) (.cons (.none _ _ _) (.cons (.none _ _ _) (.nil _ _)))))))))))))))))))))) rfl) ?_
   refine AV (A4 rfl (kn rfl) off_71_3) ?_
   refine EB rfl rfl rfl (kn rfl) rfl (kn rfl) rfl rfl sz_35 rfl ?_
   refine AN ?_
   try refine A2 ?_
   refine CE () (fun K=>AP ⟨s_t,trivial⟩ (by rw[o];exact⟨s_b,trivial⟩) trivial)
  have n4:=of_decide_eq_false k4
  have o:C5 s=s:=(if_neg n1).trans ((if_neg n2).trans (if_neg n4))
  try refine A2 ?_
  refine CE () (fun K=>AP ⟨s_t,trivial⟩ (by rw[o];exact⟨s_b,trivial⟩) trivial)
 try refine A2 ?_
 refine HA 3 3 rfl rfl rfl ?_
 refine B2 3 rfl (Imp.ptr_ref _ _) ?_
 refine A0 (A3 rfl rfl rfl (A5 rfl (kn rfl) off_71_1) (A3 rfl rfl rfl (AC rfl (kn rfl) one_3) (A3 rfl rfl rfl (A9 rfl (kn rfl) (kn rfl) AK) (A8 rfl rfl rfl rfl rfl (Walk.gd _ rfl rfl rfl (fun h=>A5 rfl (kn rfl) off_71_2) (Walk.gd _ rfl rfl rfl (fun h=>AQ (vd (C5 s).1.2.2) 7 rfl (A1 rfl h) agg_27 sz_27 rfl rfl) (Walk.gd _ rfl rfl rfl (fun h=>AG rfl (by kernel_rfl) (GV _ g1) ⟨(A1 rfl h),trivial⟩) (A3 rfl rfl rfl (AJ rfl (kn rfl) (fun hb=>A1 rfl hb)) (A8 rfl rfl rfl rfl rfl (Walk.gd _ rfl rfl rfl (fun h=>A5 rfl (kn rfl) off_71_3) (Walk.gd _ rfl rfl rfl (fun h=>A5 rfl (A1 rfl h) off_35_0) (Walk.gd _ rfl rfl rfl (fun h=>AC rfl (A1 rfl h) one_3) (Walk.gd _ rfl rfl rfl (fun h=>A9 rfl (A1 rfl h) (kn rfl) AK) (A3 rfl rfl rfl (AJ rfl (kn rfl) (fun hb=>A1 rfl hb)) (A8 rfl rfl rfl rfl rfl (Walk.gd _ rfl rfl rfl (fun h=>A5 rfl (kn rfl) off_71_3) (Walk.gd _ rfl rfl rfl (fun h=>AG rfl (by kernel_rfl) (K5 _ g2 g3) ⟨AW (A1 rfl h) (Imp.ref_pref _),trivial⟩) (A3 rfl rfl rfl (AJ rfl (kn rfl) (fun hb=>A1 rfl hb)) (AD rfl rfl rfl rfl rfl .nil))))))))))))))))))) ?_
 try refine A2 ?_
 exact A7 rfl rfl (.tmp (kn rfl) (.nil)) (AL rfl) rfl
end Go.Proofs.Ytojdpgeeajaojaa
