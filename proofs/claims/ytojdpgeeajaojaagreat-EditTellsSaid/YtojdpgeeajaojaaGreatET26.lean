/- Part 26. Conditions: as each theorem says. -/
import Derived.Test.YtojdpgeeajaojaaGreatET25
import Derived.Test.YtojdpgeeajaojaaGreatProg
set_option maxRecDepth 100000
namespace Go.Proofs.YtojdpgeeajaojaaGreat
open Go.RowKit
theorem VSm.short{n:Nat}{v:Vl}(h:VSm n v)(hn:n<=80):B8 v:=h.le hn
def CE:Vl:=.mk 0 0 [] [] [] [] []
theorem DM:B8 CE:=by
 unfold B8
 rw[CH]
 simp[CE,Vl.list,Vl.fields,Vl.pairs,lnodes,fnodes,pnodes]
theorem G7:DE CE=true:=by simp[DE,CE,vright,fright,lright,pright,vplain,Vl.kind,Vl.num,Vl.text,Vl.fields,Vl.rest,Vl.list,Vl.pairs]
def CR(e:Ed):Ed:=
 if e.kind=1 then .mk e.kind CE CE e.fields e.rests e.ro e.rn e.steps e.keys
 else if e.kind=2 then .mk e.kind e.old e.new [] false [] [] e.steps e.keys
 else if e.kind=3 then .mk e.kind e.old e.new e.fields e.rests e.ro e.rn [] e.keys
 else if e.kind=4 then .mk e.kind e.old e.new e.fields e.rests e.ro e.rn e.steps []
 else e
def U4(e:Ed):Prop:=EF Tryz.prog [] 32 [pP (ed e)] (.part (tP (DF e)))
theorem MN(e:Ed):(DE (CR e).old&&DE (CR e).new&&decide (((CR e).fields.length:Int)=0) && !(CR e).rests&&decide ((CR e).ro=[])&&decide ((CR e).rn=[])&&decide (((CR e).steps.length:Int)=0)&&decide (((CR e).keys.length:Int)=0))=DF e:=by
 have hl:∀ {α:Type} (l:List α),decide ((l.length:Int)=0)=l.isEmpty:=fun l=>by
  cases l with
  | nil=>rfl
  | cons x l=>exact decide_eq_false (by simp only[List.length_cons];omega)
 have he:∀ l:List UInt8,decide (l=[])=l.isEmpty:=fun l=>by cases l<;>rfl
 simp only[hl,he]
 unfold CR DF
 by_cases k1:e.kind=1
 ·simp[k1,Ed.old,Ed.new,Ed.fields,Ed.rests,Ed.ro,Ed.rn,Ed.steps,Ed.keys,G7,Bool.and_assoc]
 by_cases k2:e.kind=2
 ·simp[k2,Ed.old,Ed.new,Ed.fields,Ed.rests,Ed.ro,Ed.rn,Ed.steps,Ed.keys,Bool.and_assoc]
 by_cases k3:e.kind=3
 ·simp[k3,Ed.old,Ed.new,Ed.fields,Ed.rests,Ed.ro,Ed.rn,Ed.steps,Ed.keys,Bool.and_assoc]
 by_cases k4:e.kind=4
 ·simp[k4,Ed.old,Ed.new,Ed.fields,Ed.rests,Ed.ro,Ed.rn,Ed.steps,Ed.keys,Bool.and_assoc]
 simp[k1,k2,k3,k4,Bool.and_assoc]
theorem O7{e:Ed}(h1:B8 e.old)(h2:B8 e.new):B8 (CR e).old/\B8 (CR e).new:=by
 unfold CR
 split
 ·exact⟨DM,DM⟩
 repeat' split
 all_goals exact⟨h1,h2⟩
set_option maxHeartbeats 2000000 in
theorem NL(e:Ed)(h1:B8 e.old)(h2:B8 e.new):U4 e:=by
 unfold U4
 obtain⟨g1,g2⟩:=O7 h1 h2
 have q:=MN e
 refine AG 70 Tryz.func32 rfl rfl rfl fun w D=>?_
 try refine A3 ?_
 refine BB 0 rfl (Imp.pref_ref _) ?_
 refine A2 (AC rfl rfl rfl rfl rfl .nil) ?_
 try refine A3 ?_
 refine AI ?_
 refine D9 ?_
 refine AQ (AE rfl (kn rfl)) ?_
 refine AQ (AH rfl (kn rfl) agg_32 sz_32) ?_
 refine AW 3 [.is (.int .i64 0),.is (.int .i64 0),.is (.int .u64 0),.is (.string ⟨#[]⟩),.is (.slice none 0 0),.is (.string ⟨#[]⟩),.is (.slice none 0 0),.is (.slice none 0 0),.is (.int .i64 0),.is (.int .u64 0),.is (.string ⟨#[]⟩),.is (.slice none 0 0),.is (.string ⟨#[]⟩),.is (.slice none 0 0),.is (.slice none 0 0),.is (.slice none 0 0),.is (.bool false),.is (.string ⟨#[]⟩),.is (.string ⟨#[]⟩),.is (.slice none 0 0),.is (.slice none 0 0)] rfl rfl rfl rfl zr_32 (fun w D M V=>⟨rfl,fun j x v h1 h2=>AV _ h1 h2 rfl⟩) rfl rfl rfl rfl ?_
 refine AT rfl rfl rfl (kn rfl) rfl (kn rfl) rfl rfl sz_32 ?_
 refine AM ?_
 try refine A3 ?_
 refine A2 (A9 rfl rfl rfl rfl rfl (A4 rfl rfl rfl (AE rfl (kn rfl)) (A4 rfl rfl rfl (AA rfl (kn rfl) off_32_0) (A4 rfl rfl rfl (AF rfl (kn rfl) one_3) .nil)))) ?_
 refine IE (ι:=Unit) (fun _=>[(3,.box 3 0)]) (fun _=>[(3,⟨32,bcs (ed (CR e))⟩)]) (fun _=>[]) ?_ (fun _=>?_)
 ·try refine A3 ?_
  refine A2 (A4 rfl rfl rfl (A6 rfl (kn rfl) (kn rfl) AP) (AC rfl rfl rfl rfl rfl .nil)) ?_
  try refine A3 ?_
  refine AB rfl (fun k1=>?_) (fun k1=>?_)
  ·have o:CR e=.mk e.kind CE CE e.fields e.rests e.ro e.rn e.steps e.keys:=if_pos (of_decide_eq_true k1)
   try refine A3 ?_
   refine AI ?_
   refine AQ (CD (ds:=[_,_,_,.row 8 0 [],_,.row 7 0 [],.row 14 0 []]) [] rfl trivial rfl pl_27 zr_27 (fun w D=>.cons (.cell _) (.cons (.cell _) (.cons (.cell _) (.cons (.none _ _ _) (.cons (.cell _) (.cons (.none _ _ _) (.cons (.none _ _ _) (.nil _ _)))))))) rfl) ?_
   refine AQ (CD (ds:=[_,_,_,.row 8 0 [],_,.row 7 0 [],.row 14 0 []]) [] rfl trivial rfl pl_27 zr_27 (fun w D=>.cons (.cell _) (.cons (.cell _) (.cons (.cell _) (.cons (.none _ _ _) (.cons (.cell _) (.cons (.none _ _ _) (.cons (.none _ _ _) (.nil _ _)))))))) rfl) ?_
   refine AQ (A1 rfl (kn rfl) off_32_1) ?_
   refine FX rfl rfl rfl (kn rfl) rfl (kn rfl) rfl rfl sz_27 rfl ?_
   refine AQ (A1 rfl (kn rfl) off_32_2) ?_
   refine FX rfl rfl rfl (kn rfl) rfl (kn rfl) rfl rfl sz_27 rfl ?_
   refine AM ?_
   try refine A3 ?_
   refine CK () (fun K=>AL ⟨s_t,trivial⟩ (by rw[o];exact⟨s_b,trivial⟩) trivial)
  have n1:=of_decide_eq_false k1
  try refine A3 ?_
  refine A2 (A4 rfl rfl rfl (A6 rfl (kn rfl) (kn rfl) AP) (AC rfl rfl rfl rfl rfl .nil)) ?_
  try refine A3 ?_
  refine AB rfl (fun k2=>?_) (fun k2=>?_)
  ·have o:CR e=.mk e.kind e.old e.new [] false [] [] e.steps e.keys:=(if_neg n1).trans (if_pos (of_decide_eq_true k2))
   try refine A3 ?_
   refine AI ?_
   refine AQ (A1 rfl (kn rfl) off_32_3) ?_
   refine C5 rfl rfl rfl (kn rfl) rfl (kn rfl) rfl rfl sz_28 rfl ?_
   refine AQ (A1 rfl (kn rfl) off_32_4) ?_
   refine C5 rfl rfl rfl (kn rfl) rfl (kn rfl) rfl rfl sz_4 rfl ?_
   refine AQ (A1 rfl (kn rfl) off_32_5) ?_
   refine C5 rfl rfl rfl (kn rfl) rfl (kn rfl) rfl rfl sz_9 rfl ?_
   refine AQ (A1 rfl (kn rfl) off_32_6) ?_
   refine C5 rfl rfl rfl (kn rfl) rfl (kn rfl) rfl rfl sz_9 rfl ?_
   refine AM ?_
   try refine A3 ?_
   refine CK () (fun K=>AL ⟨s_t,trivial⟩ (by rw[o];exact⟨⟨_,rfl,rfl,by repeat' first | exact trivial | refine And.intro (by first | exact Imp.refl _ | exact Imp.nil _) ?_⟩,trivial⟩) trivial)
  have n2:=of_decide_eq_false k2
  try refine A3 ?_
  refine A2 (A4 rfl rfl rfl (A6 rfl (kn rfl) (kn rfl) AP) (AC rfl rfl rfl rfl rfl .nil)) ?_
  try refine A3 ?_
  refine AB rfl (fun k3=>?_) (fun k3=>?_)
  ·have o:CR e=.mk e.kind e.old e.new e.fields e.rests e.ro e.rn [] e.keys:=(if_neg n1).trans ((if_neg n2).trans (if_pos (of_decide_eq_true k3)))
   try refine A3 ?_
   refine AI ?_
   refine AQ (A1 rfl (kn rfl) off_32_7) ?_
   refine C5 rfl rfl rfl (kn rfl) rfl (kn rfl) rfl rfl sz_29 rfl ?_
   refine AM ?_
   try refine A3 ?_
   refine CK () (fun K=>AL ⟨s_t,trivial⟩ (by rw[o];exact⟨⟨_,rfl,rfl,by repeat' first | exact trivial | refine And.intro (by first | exact Imp.refl _ | exact Imp.nil _) ?_⟩,trivial⟩) trivial)
  have n3:=of_decide_eq_false k3
  try refine A3 ?_
  refine A2 (A4 rfl rfl rfl (A6 rfl (kn rfl) (kn rfl) AP) (AC rfl rfl rfl rfl rfl .nil)) ?_
  try refine A3 ?_
  refine AB rfl (fun k4=>?_) (fun k4=>?_)
  ·have o:CR e=.mk e.kind e.old e.new e.fields e.rests e.ro e.rn e.steps []:=(if_neg n1).trans ((if_neg n2).trans ((if_neg n3).trans (if_pos (of_decide_eq_true k4))))
   try refine A3 ?_
   refine AI ?_
   refine AQ (A1 rfl (kn rfl) off_32_8) ?_
   refine C5 rfl rfl rfl (kn rfl) rfl (kn rfl) rfl rfl sz_30 rfl ?_
   refine AM ?_
   try refine A3 ?_
   refine CK () (fun K=>AL ⟨s_t,trivial⟩ (by rw[o];exact⟨⟨_,rfl,rfl,by repeat' first | exact trivial | refine And.intro (by first | exact Imp.refl _ | exact Imp.nil _) ?_⟩,trivial⟩) trivial)
  have n4:=of_decide_eq_false k4
  have o:CR e=e:=(if_neg n1).trans ((if_neg n2).trans ((if_neg n3).trans (if_neg n4)))
  try refine A3 ?_
  refine CK () (fun K=>AL ⟨s_t,trivial⟩ (by rw[o];exact⟨s_b,trivial⟩) trivial)
 try refine A3 ?_
 refine A2 (A4 rfl rfl rfl (A1 rfl (kn rfl) off_32_1) (A4 rfl rfl rfl (A7 (ds:=[_,_,_,_,_,_,_]) 7 rfl (kn rfl) rfl rfl agg_27 sz_27 rfl) (A4 rfl rfl rfl (AD rfl (by kernel_rfl) (JI _ g1) ⟨(kn rfl),trivial⟩) (A9 rfl rfl rfl rfl rfl (Walk.gd _ rfl rfl rfl (fun h=>A1 rfl (kn rfl) off_32_2) (Walk.gd _ rfl rfl rfl (fun h=>A7 (ds:=[_,_,_,_,_,_,_]) 7 rfl (A0 rfl h) rfl rfl agg_27 sz_27 rfl) (Walk.gd _ rfl rfl rfl (fun h=>AD rfl (by kernel_rfl) (JI _ g2) ⟨(A0 rfl h),trivial⟩) (A4 rfl rfl rfl (AO rfl (kn rfl) (fun hb=>A0 rfl hb)) (A9 rfl rfl rfl rfl rfl (Walk.gd _ rfl rfl rfl (fun h=>A1 rfl (kn rfl) off_32_3) (Walk.gd _ rfl rfl rfl (fun h=>A5 rfl (A0 rfl h) rfl rfl one_28) (Walk.gd _ rfl rfl rfl (fun h=>AR rfl (A0 rfl h) sle_28) (Walk.gd _ rfl rfl rfl (fun h=>A6 rfl (A0 rfl h) (kn rfl) AP) (A4 rfl rfl rfl (AO rfl (kn rfl) (fun hb=>A0 rfl hb)) (A9 rfl rfl rfl rfl rfl (Walk.gd _ rfl rfl rfl (fun h=>A1 rfl (kn rfl) off_32_4) (Walk.gd _ rfl rfl rfl (fun h=>A5 rfl (A0 rfl h) rfl rfl one_4) (Walk.gd _ rfl rfl rfl (fun h=>BZ rfl (A0 rfl h)) (A4 rfl rfl rfl (AO rfl (kn rfl) (fun hb=>A0 rfl hb)) (A9 rfl rfl rfl rfl rfl (Walk.gd _ rfl rfl rfl (fun h=>A1 rfl (kn rfl) off_32_5) (Walk.gd _ rfl rfl rfl (fun h=>A5 rfl (A0 rfl h) rfl rfl one_9) (Walk.gd _ rfl rfl rfl (fun h=>A6 rfl (A0 rfl h) (kn rfl) (CS (b:=[]))) (A4 rfl rfl rfl (AO rfl (kn rfl) (fun hb=>A0 rfl hb)) (A9 rfl rfl rfl rfl rfl (Walk.gd _ rfl rfl rfl (fun h=>A1 rfl (kn rfl) off_32_6) (Walk.gd _ rfl rfl rfl (fun h=>A5 rfl (A0 rfl h) rfl rfl one_9) (Walk.gd _ rfl rfl rfl (fun h=>A6 rfl (A0 rfl h) (kn rfl) (CS (b:=[]))) (A4 rfl rfl rfl (AO rfl (kn rfl) (fun hb=>A0 rfl hb)) (A9 rfl rfl rfl rfl rfl (Walk.gd _ rfl rfl rfl (fun h=>A1 rfl (kn rfl) off_32_7) (Walk.gd _ rfl rfl rfl (fun h=>A5 rfl (A0 rfl h) rfl rfl one_29) (Walk.gd _ rfl rfl rfl (fun h=>AR rfl (A0 rfl h) sle_29) (Walk.gd _ rfl rfl rfl (fun h=>A6 rfl (A0 rfl h) (kn rfl) AP) (A4 rfl rfl rfl (AO rfl (kn rfl) (fun hb=>A0 rfl hb)) (A9 rfl rfl rfl rfl rfl (Walk.gd _ rfl rfl rfl (fun h=>A1 rfl (kn rfl) off_32_8) (Walk.gd _ rfl rfl rfl (fun h=>A5 rfl (A0 rfl h) rfl rfl one_30) (Walk.gd _ rfl rfl rfl (fun h=>AR rfl (A0 rfl h) sle_30) (Walk.gd _ rfl rfl rfl (fun h=>A6 rfl (A0 rfl h) (kn rfl) AP) (A4 rfl rfl rfl (AO rfl (kn rfl) (fun hb=>A0 rfl hb)) (AC rfl rfl rfl rfl rfl .nil)))))))))))))))))))))))))))))))))))))))))) ?_
 try refine A3 ?_
 exact A8 rfl rfl (.tmp (kn rfl) (.nil)) (AZ q) rfl
def K8:Ed:=.mk 0 CE CE [] false [] [] [] []
def D7(s:(Int×Int×Vl)×Ed):(Int×Int×Vl)×Ed:=
 if s.1.1=1 then((s.1.1,0,s.1.2.2),s.2)
 else if s.1.1=2\/s.1.1=3 then((s.1.1,s.1.2.1,CE),s.2)
 else if s.1.1=4 then(s.1,K8)
 else s
def RC(s:(Int×Int×Vl)×Ed):Bool:=decide ((D7 s).1.2.1=0)&&DE (D7 s).1.2.2&&decide ((D7 s).2.kind=0)&&DF (D7 s).2
theorem M7{s:(Int×Int×Vl)×Ed}(h1:B8 s.1.2.2)(h2:B8 s.2.old)(h3:B8 s.2.new):B8 (D7 s).1.2.2/\B8 (D7 s).2.old/\B8 (D7 s).2.new:=by
 unfold D7
 split
 ·exact⟨h1,h2,h3⟩
 split
 ·exact⟨DM,h2,h3⟩
 split
 ·exact⟨h1,DM,DM⟩
 ·exact⟨h1,h2,h3⟩
set_option maxHeartbeats 2000000 in
theorem RP(s:(Int×Int×Vl)×Ed)(h1:B8 s.1.2.2)(h2:B8 s.2.old)(h3:B8 s.2.new):EF Tryz.prog [] 75 [pP (esd s)] (.part (tP (RC s))):=by
 obtain⟨g1,g2,g3⟩:=M7 h1 h2 h3
 refine AG 41 Tryz.func75 rfl rfl rfl fun w D=>?_
 try refine A3 ?_
 refine BB 0 rfl (Imp.pref_ref _) ?_
 refine A2 (AC rfl rfl rfl rfl rfl .nil) ?_
 try refine A3 ?_
 refine AI ?_
 refine D9 ?_
 refine AQ (AE rfl (kn rfl)) ?_
 refine AQ (AH rfl (kn rfl) agg_77 sz_77) ?_
 refine AW 3 [.is (.int .i64 0),.is (.int .i64 0),.is (.int .i64 0),.is (.int .u64 0),.is (.string ⟨#[]⟩),.is (.slice none 0 0),.is (.string ⟨#[]⟩),.is (.slice none 0 0),.is (.slice none 0 0),.is (.int .i64 0),.is (.int .i64 0),.is (.int .u64 0),.is (.string ⟨#[]⟩),.is (.slice none 0 0),.is (.string ⟨#[]⟩),.is (.slice none 0 0),.is (.slice none 0 0),.is (.int .i64 0),.is (.int .u64 0),.is (.string ⟨#[]⟩),.is (.slice none 0 0),.is (.string ⟨#[]⟩),.is (.slice none 0 0),.is (.slice none 0 0),.is (.slice none 0 0),.is (.bool false),.is (.string ⟨#[]⟩),.is (.string ⟨#[]⟩),.is (.slice none 0 0),.is (.slice none 0 0)] rfl rfl rfl rfl zr_77 (fun w D M V=>⟨rfl,fun j x v h1 h2=>AV _ h1 h2 rfl⟩) rfl rfl rfl rfl ?_
 refine AT rfl rfl rfl (kn rfl) rfl (kn rfl) rfl rfl sz_77 ?_
 refine AM ?_
 try refine A3 ?_
 refine A2 (A9 rfl rfl rfl rfl rfl (A4 rfl rfl rfl (AE rfl (kn rfl)) (A4 rfl rfl rfl (AA rfl (kn rfl) off_77_0) (A4 rfl rfl rfl (AF rfl (kn rfl) one_3) .nil)))) ?_
 refine IE (ι:=Unit) (fun _=>[(3,.box 3 0)]) (fun _=>[(3,⟨77,bcs (esd (D7 s))⟩)]) (fun _=>[]) ?_ (fun _=>?_)
 ·try refine A3 ?_
  refine A2 (A4 rfl rfl rfl (A6 rfl (kn rfl) (kn rfl) AP) (AC rfl rfl rfl rfl rfl .nil)) ?_
  try refine A3 ?_
  refine AB rfl (fun k1=>?_) (fun k1=>?_)
  ·have o:D7 s=((s.1.1,0,s.1.2.2),s.2):=if_pos (of_decide_eq_true k1)
   try refine A3 ?_
   refine AI ?_
   refine AQ (A1 rfl (kn rfl) off_77_1) ?_
   refine C5 rfl rfl rfl (kn rfl) rfl (kn rfl) rfl rfl sz_3 rfl ?_
   refine AM ?_
   try refine A3 ?_
   refine CK () (fun K=>AL ⟨s_t,trivial⟩ (by rw[o];exact⟨s_b,trivial⟩) trivial)
  have n1:=of_decide_eq_false k1
  try refine A3 ?_
  refine A2 (A4 rfl rfl rfl (A6 rfl (kn rfl) (kn rfl) AP) (AC rfl rfl rfl rfl rfl .nil)) ?_
  try refine A3 ?_
  refine IE (ι:=Unit) (fun _=>[(3,.box 3 0),(10,.is (.int .i64 s.1.1)),(14,.is (.bool (decide (s.1.1=2\/s.1.1=3))))]) (fun _=>[(3,⟨77,bcs (esd s)⟩)]) (fun _=>[]) ?_ (fun _=>?_)
  ·refine AB rfl (fun s2=>?_) (fun s2=>?_)
   ·try refine A3 ?_
    refine CK () (fun K=>AL ⟨s_t,s_t,⟨_,rfl,Imp.of_eq (by rw[decide_eq_true (Or.inl (of_decide_eq_true s2)),s2])⟩,trivial⟩ ⟨s_b,trivial⟩ trivial)
   try refine A3 ?_
   refine A2 (A4 rfl rfl rfl (A6 rfl (kn rfl) (kn rfl) AP) (AC rfl rfl rfl rfl rfl .nil)) ?_
   try refine A3 ?_
   refine CK () (fun K=>AL ⟨s_t,s_t,⟨_,rfl,Imp.of_eq (by have:=of_decide_eq_false s2;simp[this])⟩,trivial⟩ ⟨s_b,trivial⟩ trivial)
  try refine A3 ?_
  refine AB rfl (fun k2=>?_) (fun k2=>?_)
  ·have o:D7 s=((s.1.1,s.1.2.1,CE),s.2):=(if_neg n1).trans (if_pos (of_decide_eq_true k2))
   try refine A3 ?_
   refine AI ?_
   refine AQ (CD (ds:=[_,_,_,.row 8 0 [],_,.row 7 0 [],.row 14 0 []]) [] rfl trivial rfl pl_27 zr_27 (fun w D=>.cons (.cell _) (.cons (.cell _) (.cons (.cell _) (.cons (.none _ _ _) (.cons (.cell _) (.cons (.none _ _ _) (.cons (.none _ _ _) (.nil _ _)))))))) rfl) ?_
   refine AQ (A1 rfl (kn rfl) off_77_2) ?_
   refine FX rfl rfl rfl (kn rfl) rfl (kn rfl) rfl rfl sz_27 rfl ?_
   refine AM ?_
   try refine A3 ?_
   refine CK () (fun K=>AL ⟨s_t,trivial⟩ (by rw[o];exact⟨s_b,trivial⟩) trivial)
  have n2:=of_decide_eq_false k2
  try refine A3 ?_
  refine A2 (A4 rfl rfl rfl (A6 rfl (kn rfl) (kn rfl) AP) (AC rfl rfl rfl rfl rfl .nil)) ?_
  try refine A3 ?_
  refine AB rfl (fun k4=>?_) (fun k4=>?_)
  ·have o:D7 s=(s.1,K8):=(if_neg n1).trans ((if_neg n2).trans (if_pos (of_decide_eq_true k4)))
   try refine A3 ?_
   refine AI ?_
   refine AQ (CD (ds:=[_,_,_,_,.row 8 0 [],_,.row 7 0 [],.row 14 0 [],_,_,_,.row 8 0 [],_,.row 7 0 [],.row 14 0 [],.row 22 0 [],_,_,_,.row 30 0 [],.row 28 0 []]) [] rfl trivial rfl pl_32 zr_32 (fun w D=>.cons (.cell _) (.cons (.cell _) (.cons (.cell _) (.cons (.cell _) (.cons (.none _ _ _) (.cons (.cell _) (.cons (.none _ _ _) (.cons (.none _ _ _) (.cons (.cell _) (.cons (.cell _) (.cons (.cell _) (.cons (.none _ _ _) (.cons (.cell _) (.cons (.none _ _ _) (.cons (.none _ _ _) (.cons (.none _ _ _) (.cons (.cell _) (.cons (.cell _) (.cons (.cell _) (.cons (.none _ _ _) (.cons (.none _ _ _) (.nil _ _)))))))))))))))))))))) rfl) ?_
   refine AQ (A1 rfl (kn rfl) off_77_3) ?_
   refine FX rfl rfl rfl (kn rfl) rfl (kn rfl) rfl rfl sz_32 rfl ?_
   refine AM ?_
   try refine A3 ?_
   refine CK () (fun K=>AL ⟨s_t,trivial⟩ (by rw[o];exact⟨s_b,trivial⟩) trivial)
  have n4:=of_decide_eq_false k4
  have o:D7 s=s:=(if_neg n1).trans ((if_neg n2).trans (if_neg n4))
  try refine A3 ?_
  refine CK () (fun K=>AL ⟨s_t,trivial⟩ (by rw[o];exact⟨s_b,trivial⟩) trivial)
 try refine A3 ?_
 refine I2 3 3 rfl rfl rfl ?_
 refine BB 3 rfl (Imp.ptr_ref _ _) ?_
 refine A2 (A4 rfl rfl rfl (AA rfl (kn rfl) off_77_1) (A4 rfl rfl rfl (AF rfl (kn rfl) one_3) (A4 rfl rfl rfl (A6 rfl (kn rfl) (kn rfl) AP) (A9 rfl rfl rfl rfl rfl (Walk.gd _ rfl rfl rfl (fun h=>AA rfl (kn rfl) off_77_2) (Walk.gd _ rfl rfl rfl (fun h=>B2 (vd (D7 s).1.2.2) 7 rfl (A0 rfl h) agg_27 sz_27 rfl rfl) (Walk.gd _ rfl rfl rfl (fun h=>AD rfl (by kernel_rfl) (JI _ g1) ⟨(A0 rfl h),trivial⟩) (A4 rfl rfl rfl (AO rfl (kn rfl) (fun hb=>A0 rfl hb)) (A9 rfl rfl rfl rfl rfl (Walk.gd _ rfl rfl rfl (fun h=>AA rfl (kn rfl) off_77_3) (Walk.gd _ rfl rfl rfl (fun h=>AA rfl (A0 rfl h) off_32_0) (Walk.gd _ rfl rfl rfl (fun h=>AF rfl (A0 rfl h) one_3) (Walk.gd _ rfl rfl rfl (fun h=>A6 rfl (A0 rfl h) (kn rfl) AP) (A4 rfl rfl rfl (AO rfl (kn rfl) (fun hb=>A0 rfl hb)) (A9 rfl rfl rfl rfl rfl (Walk.gd _ rfl rfl rfl (fun h=>AA rfl (kn rfl) off_77_3) (Walk.gd _ rfl rfl rfl (fun h=>AD rfl (by kernel_rfl) (NL _ g2 g3) ⟨B7 (A0 rfl h) (Imp.ref_pref _),trivial⟩) (A4 rfl rfl rfl (AO rfl (kn rfl) (fun hb=>A0 rfl hb)) (AC rfl rfl rfl rfl rfl .nil))))))))))))))))))) ?_
 try refine A3 ?_
 exact A8 rfl rfl (.tmp (kn rfl) (.nil)) (AZ rfl) rfl
end Go.Proofs.YtojdpgeeajaojaaGreat
