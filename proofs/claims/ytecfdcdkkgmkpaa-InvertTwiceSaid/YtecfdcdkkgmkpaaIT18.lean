/- Part 18. Conditions: as each theorem says. -/
import Derived.Test.YtecfdcdkkgmkpaaIT17
import Derived.Test.YtecfdcdkkgmkpaaProg
set_option maxRecDepth 100000
namespace Go.Proofs.Ytecfdcdkkgmkpaa
open Go.RowKit
def ERt(e:Ed):Prop:=EF Try.prog [] 20 [pP (ed e)] (.part (tP (B5 e)))
theorem G4(e:Ed)(hE:ERt e):EF Try.prog [] 89 [pP (ed e)] (.part (tP (!decide (e.kind=0)&&B5 e))):=by
 refine AF 12 Try.func89 rfl rfl rfl fun w D=>?_
 try refine A1 ?_
 refine AX 0 rfl (Imp.pref_ref _) ?_
 refine A0 (AC rfl rfl rfl rfl rfl .nil) ?_
 try refine A1 ?_
 refine A0 (A8 rfl rfl rfl rfl rfl (A3 rfl rfl rfl (AA rfl (kn rfl)) (A3 rfl rfl rfl (A6 rfl (kn rfl) off_32_0) (A3 rfl rfl rfl (AD rfl (kn rfl) one_3) (A3 rfl rfl rfl (A9 rfl (kn rfl) (kn rfl) DP) (A8 rfl rfl rfl rfl rfl (Walk.gd _ rfl rfl rfl (fun h=>AM rfl (kn rfl)) (Walk.gd _ rfl rfl rfl (fun h=>AG rfl (by kernel_rfl) (hE) ⟨B4 (A2 rfl h) (Imp.ref_pref _),trivial⟩) (A3 rfl rfl rfl (AP rfl (kn rfl) (fun hb=>A2 rfl hb)) (AC rfl rfl rfl rfl rfl .nil)))))))))) ?_
 try refine A1 ?_
 exact A7 rfl rfl (.tmp (kn rfl) (.nil)) (AR rfl) rfl
theorem LX(p:Int×Ed)(hE:ERt p.2):EF Try.prog [] 38 [pP (efd p)] (.part (tP (HG p))):=by
 refine AF 21 Try.func38 rfl rfl rfl fun w D=>?_
 try refine A1 ?_
 refine AX 0 rfl (Imp.pref_ref _) ?_
 refine A0 (AC rfl rfl rfl rfl rfl .nil) ?_
 try refine A1 ?_
 refine A0 (A8 rfl rfl rfl rfl rfl (A3 rfl rfl rfl (AA rfl (kn rfl)) (A3 rfl rfl rfl (A6 rfl (kn rfl) off_61_0) (A3 rfl rfl rfl (AD rfl (kn rfl) one_3) (A3 rfl rfl rfl (A9 rfl (kn rfl) (kn rfl) D7) (A8 rfl rfl rfl rfl rfl (Walk.gd _ rfl rfl rfl (fun h=>AM rfl (kn rfl)) (Walk.gd _ rfl rfl rfl (fun h=>AA rfl (A2 rfl h)) (Walk.gd _ rfl rfl rfl (fun h=>A6 rfl (A2 rfl h) off_61_0) (Walk.gd _ rfl rfl rfl (fun h=>AD rfl (A2 rfl h) one_3) (Walk.gd _ rfl rfl rfl (fun h=>A9 rfl (A2 rfl h) (kn rfl) OB) (A3 rfl rfl rfl (AP rfl (kn rfl) (fun hb=>A2 rfl hb)) (A8 rfl rfl rfl rfl rfl (Walk.gd _ rfl rfl rfl (fun h=>AM rfl (kn rfl)) (Walk.gd _ rfl rfl rfl (fun h=>AA rfl (A2 rfl h)) (Walk.gd _ rfl rfl rfl (fun h=>A6 rfl (A2 rfl h) off_61_1) (Walk.gd _ rfl rfl rfl (fun h=>AG rfl (by kernel_rfl) (G4 p.2 hE) ⟨B4 (A2 rfl h) (Imp.ref_pref _),trivial⟩) (A3 rfl rfl rfl (AP rfl (kn rfl) (fun hb=>A2 rfl hb)) (AC rfl rfl rfl rfl rfl .nil))))))))))))))))))) ?_
 try refine A1 ?_
 exact A7 rfl rfl (.tmp (kn rfl) (.nil)) (AR rfl) rfl
theorem LV(p q:Int×Ed):EF Try.prog [] 39 [pP (efd p),pP (efd q)] (.part (tP (EZ p q))):=by
 refine AF 14 Try.func39 rfl rfl rfl fun w D=>?_
 try refine A1 ?_
 refine AX 0 rfl (Imp.pref_ref _) ?_
 refine AX 1 rfl (Imp.pref_ref _) ?_
 refine A0 (AC rfl rfl rfl rfl rfl .nil) ?_
 try refine A1 ?_
 refine BZ C8 (by kernel_rfl) (A8 rfl rfl rfl rfl rfl (A3 rfl rfl rfl (AA rfl (kn rfl)) (A3 rfl rfl rfl (A6 rfl (kn rfl) off_61_0) (A3 rfl rfl rfl (AD rfl (kn rfl) one_3) (A8 rfl rfl rfl rfl rfl (A3 rfl rfl rfl (AA rfl (kn rfl)) (A3 rfl rfl rfl (A6 rfl (kn rfl) off_61_0) (A3 rfl rfl rfl (AD rfl (kn rfl) one_3) (A3 rfl rfl rfl (A9 rfl (kn rfl) (kn rfl) BJ) (AC rfl rfl rfl rfl rfl .nil)))))))))) ?_
 try refine A1 ?_
 exact A7 rfl rfl (.tmp (kn rfl) (.nil)) (AR rfl) rfl
theorem TC(p:(Int×Int×Vl)×Ed):EF Try.prog [] 41 [pP (esd p)] (.part (tP (J2 p))):=by
 refine AF 8 Try.func41 rfl rfl rfl fun w D=>?_
 try refine A1 ?_
 refine AX 0 rfl (Imp.pref_ref _) ?_
 refine A0 (AC rfl rfl rfl rfl rfl .nil) ?_
 try refine A1 ?_
 refine A0 (A8 rfl rfl rfl rfl rfl (A3 rfl rfl rfl (AA rfl (kn rfl)) (A3 rfl rfl rfl (A6 rfl (kn rfl) off_76_0) (A3 rfl rfl rfl (AD rfl (kn rfl) one_3) (A3 rfl rfl rfl (A9 rfl (kn rfl) (kn rfl) DP) (AC rfl rfl rfl rfl rfl .nil)))))) ?_
 try refine A1 ?_
 exact A7 rfl rfl (.tmp (kn rfl) (.nil)) (AR rfl) rfl
theorem NO(p q:(Int×Int×Vl)×Ed):EF Try.prog [] 44 [pP (esd p),pP (esd q)] (.part (tP (C3 p q))):=by
 refine AF 23 Try.func44 rfl rfl rfl fun w D=>?_
 try refine A1 ?_
 refine AX 0 rfl (Imp.pref_ref _) ?_
 refine AX 1 rfl (Imp.pref_ref _) ?_
 refine A0 (AC rfl rfl rfl rfl rfl .nil) ?_
 try refine A1 ?_
 refine A0 (A8 rfl rfl rfl rfl rfl (A3 rfl rfl rfl (AA rfl (kn rfl)) (A3 rfl rfl rfl (A6 rfl (kn rfl) off_76_0) (A3 rfl rfl rfl (AD rfl (kn rfl) one_3) .nil)))) ?_
 try refine A1 ?_
 try refine A1 ?_
 refine A0 (A3 rfl rfl rfl (A9 rfl (kn rfl) (kn rfl) AL) (AC rfl rfl rfl rfl rfl .nil)) ?_
 try refine A1 ?_
 refine AE rfl (fun h=>?_) (fun h=>?_)
 ·try refine A1 ?_
  refine A0 (A8 rfl rfl rfl rfl rfl (A3 rfl rfl rfl (AA rfl (kn rfl)) (A3 rfl rfl rfl (A6 rfl (kn rfl) off_76_0) (A3 rfl rfl rfl (AD rfl (kn rfl) one_3) (A3 rfl rfl rfl (A9 rfl (kn rfl) (kn rfl) DP) (AC rfl rfl rfl rfl rfl .nil)))))) ?_
  try refine A1 ?_
  exact A7 rfl rfl (.tmp (kn rfl) (.nil)) (AR (if_pos (of_decide_eq_true h)).symm) rfl
 try refine A1 ?_
 refine A0 (A3 rfl rfl rfl (A9 rfl (kn rfl) (kn rfl) AL) (AC rfl rfl rfl rfl rfl .nil)) ?_
 try refine A1 ?_
 refine AE rfl (fun h3=>?_) (fun h3=>?_)
 ·try refine A1 ?_
  refine A0 (A8 rfl rfl rfl rfl rfl (A3 rfl rfl rfl (AA rfl (kn rfl)) (A3 rfl rfl rfl (A6 rfl (kn rfl) off_76_0) (A3 rfl rfl rfl (AD rfl (kn rfl) one_3) (A3 rfl rfl rfl (A9 rfl (kn rfl) (kn rfl) DP) (AC rfl rfl rfl rfl rfl .nil)))))) ?_
  try refine A1 ?_
  exact A7 rfl rfl (.tmp (kn rfl) (.nil)) (AR ((if_neg (of_decide_eq_false h)).trans (if_pos (of_decide_eq_true h3))).symm) rfl
 try refine A1 ?_
 refine A0 (AC rfl rfl rfl rfl rfl .nil) ?_
 try refine A1 ?_
 exact A7 rfl rfl (.tmp (kn rfl) (.nil)) (AR ((if_neg (of_decide_eq_false h)).trans (if_neg (of_decide_eq_false h3))).symm) rfl
theorem LM(x:Ed):(decide (x.kind=0)&&B5 x)=(decide (x.kind=0)&&E3 x):=by
 by_cases h:x.kind=0
 ·rw[DF,if_pos h,Bool.and_true]
 ·rw[decide_eq_false h,Bool.false_and,Bool.false_and]
theorem S6(v:Vl):(decide (1<=v.kind)&&decide (v.kind<=3)&&vright v)=KE v:=by
 unfold KE
 congr 1
 rw[<- Bool.decide_and,<- Bool.decide_or,<- Bool.decide_or]
 exact decide_eq_decide.2 (by omega)
theorem QK:E3 EJ=true:=by
 unfold E3 EJ
 simp[Ed.kind,Ed.old,Ed.new,Ed.fields,Ed.rests,Ed.ro,Ed.rn,Ed.steps,Ed.keys,E2]
theorem QV(s:(Int×Int×Vl)×Ed):C6 s=(UD s&&(if s.1.1=1 then decide (1<=s.1.2.1)&&decide (s.1.2.1<=1048576)else if s.1.1=2\/s.1.1=3 then KE s.1.2.2 else if s.1.1=4 then !decide (s.2.kind=0)&&B5 s.2 else false)):=by
 unfold C6 HO UD D9
 by_cases k1:s.1.1=1
 ·simp only[if_pos k1,LM]
  cases DZ s.1.2.2<;>cases E3 s.2<;>simp
  cases decide (s.2.kind=0)<;>simp
 by_cases k2:s.1.1=2\/s.1.1=3
 ·simp only[if_neg k1,if_pos k2,LM,E2]
  cases KE s.1.2.2<;>cases E3 s.2<;>simp
 by_cases k4:s.1.1=4
 ·simp only[if_neg k1,if_neg k2,if_pos k4,QK]
  simp[EJ,Ed.kind,Bool.and_assoc]
 simp only[if_neg k1,if_neg k2,if_neg k4,Bool.and_false]
set_option maxHeartbeats 1000000 in
theorem NG(p:(Int×Int×Vl)×Ed)(h1:B7 p.1.2.2)(h2:B7 p.2.old)(h3:B7 p.2.new)(hE:ERt p.2):EF Try.prog [] 43 [pP (esd p)] (.part (tP (C6 p))):=by
 have q:=QV p
 refine AF 54 Try.func43 rfl rfl rfl fun w D=>?_
 try refine A1 ?_
 refine AX 0 rfl (Imp.pref_ref _) ?_
 refine A0 (AC rfl rfl rfl rfl rfl .nil) ?_
 try refine A1 ?_
 refine A0 (A8 rfl rfl rfl rfl rfl (A3 rfl rfl rfl (AG rfl (by kernel_rfl) (U6 p h1 h2 h3) ⟨B4 (kn rfl) (Imp.ref_pref _),trivial⟩) (A3 rfl rfl rfl (DL rfl (kn rfl)) .nil))) ?_
 try refine A1 ?_
 refine AE rfl (fun b=>?_) (fun b=>?_)
 ·rw[Q0 b,Bool.false_and]at q
  try refine A1 ?_
  refine A0 (AC rfl rfl rfl rfl rfl .nil) ?_
  try refine A1 ?_
  exact A7 rfl rfl (.tmp (kn rfl) (.nil)) (AR q.symm) rfl
 rw[PT b,Bool.true_and]at q
 try refine A1 ?_
 refine A0 (A8 rfl rfl rfl rfl rfl (A3 rfl rfl rfl (AA rfl (kn rfl)) (A3 rfl rfl rfl (A6 rfl (kn rfl) off_76_0) (A3 rfl rfl rfl (AD rfl (kn rfl) one_3) .nil)))) ?_
 try refine A1 ?_
 try refine A1 ?_
 refine A0 (A3 rfl rfl rfl (A9 rfl (kn rfl) (kn rfl) AL) (AC rfl rfl rfl rfl rfl .nil)) ?_
 try refine A1 ?_
 refine AE rfl (fun k1=>?_) (fun k1=>?_)
 ·rw[if_pos (of_decide_eq_true k1)]at q
  try refine A1 ?_
  refine A0 (A8 rfl rfl rfl rfl rfl (A3 rfl rfl rfl (AA rfl (kn rfl)) (A3 rfl rfl rfl (A6 rfl (kn rfl) off_76_1) (A3 rfl rfl rfl (AD rfl (kn rfl) one_3) (A3 rfl rfl rfl (A9 rfl (kn rfl) (kn rfl) D7) (A8 rfl rfl rfl rfl rfl (Walk.gd _ rfl rfl rfl (fun h=>AM rfl (kn rfl)) (Walk.gd _ rfl rfl rfl (fun h=>AA rfl (A2 rfl h)) (Walk.gd _ rfl rfl rfl (fun h=>A6 rfl (A2 rfl h) off_76_1) (Walk.gd _ rfl rfl rfl (fun h=>AD rfl (A2 rfl h) one_3) (Walk.gd _ rfl rfl rfl (fun h=>A9 rfl (A2 rfl h) (kn rfl) OB) (A3 rfl rfl rfl (AP rfl (kn rfl) (fun hb=>A2 rfl hb)) (AC rfl rfl rfl rfl rfl .nil))))))))))))) ?_
  try refine A1 ?_
  exact A7 rfl rfl (.tmp (kn rfl) (.nil)) (AR q.symm) rfl
 rw[if_neg (of_decide_eq_false k1)]at q
 try refine A1 ?_
 refine A0 (A3 rfl rfl rfl (A9 rfl (kn rfl) (kn rfl) AL) (AC rfl rfl rfl rfl rfl .nil)) ?_
 try refine A1 ?_
 refine N3 (ι:=Unit) (fun _=>[(0,.ref (esd p)),(9,.is (.int .i64 p.1.1)),(24,.is (.bool (decide (p.1.1=2\/p.1.1=3))))]) (fun _=>[]) (fun _=>[]) ?_ (fun _=>?_)
 ·refine AE rfl (fun s2=>?_) (fun s2=>?_)
  ·try refine A1 ?_
   refine DT () (fun K=>AN ⟨s_t,s_t,⟨_,rfl,Imp.of_eq (by rw[decide_eq_true (Or.inl (of_decide_eq_true s2)),s2])⟩,trivial⟩ trivial trivial)
  try refine A1 ?_
  refine A0 (A3 rfl rfl rfl (A9 rfl (kn rfl) (kn rfl) AL) (AC rfl rfl rfl rfl rfl .nil)) ?_
  try refine A1 ?_
  refine DT () (fun K=>AN ⟨s_t,s_t,⟨_,rfl,Imp.of_eq (by have:=of_decide_eq_false s2;simp[this])⟩,trivial⟩ trivial trivial)
 try refine A1 ?_
 refine AE rfl (fun k2=>?_) (fun k2=>?_)
 ·rw[if_pos (of_decide_eq_true k2)]at q
  try refine A1 ?_
  refine A0 (A8 rfl rfl rfl rfl rfl (A3 rfl rfl rfl (AA rfl (kn rfl)) (A3 rfl rfl rfl (A6 rfl (kn rfl) off_76_2) (A3 rfl rfl rfl (A6 rfl (kn rfl) off_27_0) (A3 rfl rfl rfl (AD rfl (kn rfl) one_3) (A3 rfl rfl rfl (A9 rfl (kn rfl) (kn rfl) D7) (A8 rfl rfl rfl rfl rfl (Walk.gd _ rfl rfl rfl (fun h=>AM rfl (kn rfl)) (Walk.gd _ rfl rfl rfl (fun h=>AA rfl (A2 rfl h)) (Walk.gd _ rfl rfl rfl (fun h=>A6 rfl (A2 rfl h) off_76_2) (Walk.gd _ rfl rfl rfl (fun h=>A6 rfl (A2 rfl h) off_27_0) (Walk.gd _ rfl rfl rfl (fun h=>AD rfl (A2 rfl h) one_3) (Walk.gd _ rfl rfl rfl (fun h=>A9 rfl (A2 rfl h) (kn rfl) OB) (A3 rfl rfl rfl (AP rfl (kn rfl) (fun hb=>A2 rfl hb)) (A8 rfl rfl rfl rfl rfl (Walk.gd _ rfl rfl rfl (fun h=>AM rfl (kn rfl)) (Walk.gd _ rfl rfl rfl (fun h=>AA rfl (A2 rfl h)) (Walk.gd _ rfl rfl rfl (fun h=>A6 rfl (A2 rfl h) off_76_2) (Walk.gd _ rfl rfl rfl (fun h=>AZ (vd p.1.2.2) 7 rfl (A2 rfl h) agg_27 sz_27 rfl rfl) (Walk.gd _ rfl rfl rfl (fun h=>AG rfl (by kernel_rfl) (F8 p.1.2.2 h1) ⟨(A2 rfl h),trivial⟩) (A3 rfl rfl rfl (AP rfl (kn rfl) (fun hb=>A2 rfl hb)) (AC rfl rfl rfl rfl rfl .nil)))))))))))))))))))))) ?_
  try refine A1 ?_
  exact A7 rfl rfl (.tmp (kn rfl) (.nil)) (AR (by rw[q];exact S6 _)) rfl
 rw[if_neg (of_decide_eq_false k2)]at q
 try refine A1 ?_
 refine A0 (A3 rfl rfl rfl (A9 rfl (kn rfl) (kn rfl) AL) (AC rfl rfl rfl rfl rfl .nil)) ?_
 try refine A1 ?_
 refine AE rfl (fun k4=>?_) (fun k4=>?_)
 ·rw[if_pos (of_decide_eq_true k4)]at q
  try refine A1 ?_
  refine A0 (A8 rfl rfl rfl rfl rfl (A3 rfl rfl rfl (AA rfl (kn rfl)) (A3 rfl rfl rfl (A6 rfl (kn rfl) off_76_3) (A3 rfl rfl rfl (AG rfl (by kernel_rfl) (G4 p.2 hE) ⟨B4 (kn rfl) (Imp.ref_pref _),trivial⟩) (AC rfl rfl rfl rfl rfl .nil))))) ?_
  try refine A1 ?_
  exact A7 rfl rfl (.tmp (kn rfl) (.nil)) (AR q.symm) rfl
 rw[if_neg (of_decide_eq_false k4)]at q
 try refine A1 ?_
 refine A0 (AC rfl rfl rfl rfl rfl .nil) ?_
 try refine A1 ?_
 exact A7 rfl rfl (.tmp (kn rfl) (.nil)) (AR q.symm) rfl
theorem PD(p:Vl×Ed)(h1:B7 p.1)(hE:ERt p.2):EF Try.prog [] 46 [pP (ekd p)] (.part (tP (R8 p))):=by
 refine AF 30 Try.func46 rfl rfl rfl fun w D=>?_
 try refine A1 ?_
 refine AX 0 rfl (Imp.pref_ref _) ?_
 refine A0 (AC rfl rfl rfl rfl rfl .nil) ?_
 try refine A1 ?_
 refine A0 (A8 rfl rfl rfl rfl rfl (A3 rfl rfl rfl (AA rfl (kn rfl)) (A3 rfl rfl rfl (A6 rfl (kn rfl) off_65_0) (A3 rfl rfl rfl (A6 rfl (kn rfl) off_27_0) (A3 rfl rfl rfl (AD rfl (kn rfl) one_3) (A3 rfl rfl rfl (A9 rfl (kn rfl) (kn rfl) AL) (A8 rfl rfl rfl rfl rfl (Walk.gd _ rfl rfl rfl (fun h=>AM rfl (kn rfl)) (Walk.gd _ rfl rfl rfl (fun h=>AA rfl (A2 rfl h)) (Walk.gd _ rfl rfl rfl (fun h=>A6 rfl (A2 rfl h) off_65_0) (Walk.gd _ rfl rfl rfl (fun h=>A6 rfl (A2 rfl h) off_27_0) (Walk.gd _ rfl rfl rfl (fun h=>AD rfl (A2 rfl h) one_3) (Walk.gd _ rfl rfl rfl (fun h=>A9 rfl (A2 rfl h) (kn rfl) AL) (A3 rfl rfl rfl (FK rfl (kn rfl) (fun hb=>A2 rfl hb)) (A8 rfl rfl rfl rfl rfl (Walk.gd _ rfl rfl rfl (fun h=>AM rfl (kn rfl)) (Walk.gd _ rfl rfl rfl (fun h=>AA rfl (A2 rfl h)) (Walk.gd _ rfl rfl rfl (fun h=>A6 rfl (A2 rfl h) off_65_0) (Walk.gd _ rfl rfl rfl (fun h=>AZ (vd p.1) 7 rfl (A2 rfl h) agg_27 sz_27 rfl rfl) (Walk.gd _ rfl rfl rfl (fun h=>AG rfl (by kernel_rfl) (F8 p.1 h1) ⟨(A2 rfl h),trivial⟩) (A3 rfl rfl rfl (AP rfl (kn rfl) (fun hb=>A2 rfl hb)) (A8 rfl rfl rfl rfl rfl (Walk.gd _ rfl rfl rfl (fun h=>AM rfl (kn rfl)) (Walk.gd _ rfl rfl rfl (fun h=>AA rfl (A2 rfl h)) (Walk.gd _ rfl rfl rfl (fun h=>A6 rfl (A2 rfl h) off_65_1) (Walk.gd _ rfl rfl rfl (fun h=>AG rfl (by kernel_rfl) (G4 p.2 hE) ⟨B4 (A2 rfl h) (Imp.ref_pref _),trivial⟩) (A3 rfl rfl rfl (AP rfl (kn rfl) (fun hb=>A2 rfl hb)) (AC rfl rfl rfl rfl rfl .nil)))))))))))))))))))))))))))) ?_
 try refine A1 ?_
 exact A7 rfl rfl (.tmp (kn rfl) (.nil)) (AR rfl) rfl
theorem OT(p q:Vl×Ed)(h1:B7 p.1)(h2:B7 q.1):EF Try.prog [] 47 [pP (ekd p),pP (ekd q)] (.part (tP (JS p q))):=by
 refine AF 28 Try.func47 rfl rfl rfl fun w D=>?_
 try refine A1 ?_
 refine AX 0 rfl (Imp.pref_ref _) ?_
 refine AX 1 rfl (Imp.pref_ref _) ?_
 refine A0 (AC rfl rfl rfl rfl rfl .nil) ?_
 try refine A1 ?_
 refine BZ C8 (by kernel_rfl) (A8 rfl rfl rfl rfl rfl (A3 rfl rfl rfl (AA rfl (kn rfl)) (A3 rfl rfl rfl (A6 rfl (kn rfl) off_65_0) (A3 rfl rfl rfl (A6 rfl (kn rfl) off_27_0) (A3 rfl rfl rfl (AD rfl (kn rfl) one_3) (A8 rfl rfl rfl rfl rfl (A3 rfl rfl rfl (AA rfl (kn rfl)) (A3 rfl rfl rfl (A6 rfl (kn rfl) off_65_0) (A3 rfl rfl rfl (A6 rfl (kn rfl) off_27_0) (A3 rfl rfl rfl (AD rfl (kn rfl) one_3) (A3 rfl rfl rfl (A9 rfl (kn rfl) (kn rfl) AL) (A8 rfl rfl rfl rfl rfl (Walk.gd _ rfl rfl rfl (fun h=>AM rfl (kn rfl)) (Walk.gd _ rfl rfl rfl (fun h=>AA rfl (A2 rfl h)) (Walk.gd _ rfl rfl rfl (fun h=>A6 rfl (A2 rfl h) off_65_0) (Walk.gd _ rfl rfl rfl (fun h=>AZ (vd p.1) 7 rfl (A2 rfl h) agg_27 sz_27 rfl rfl) (Walk.gd _ rfl rfl rfl (fun h=>AM rfl (kn rfl)) (Walk.gd _ rfl rfl rfl (fun h=>AA rfl (A2 rfl h)) (Walk.gd _ rfl rfl rfl (fun h=>A6 rfl (A2 rfl h) off_65_0) (Walk.gd _ rfl rfl rfl (fun h=>AZ (vd q.1) 7 rfl (A2 rfl h) agg_27 sz_27 rfl rfl) (Walk.gd _ rfl rfl rfl (fun h=>AG rfl (by kernel_rfl) (G5 p.1 h1 q.1 h2) ⟨(A2 rfl h),⟨(A2 rfl h),trivial⟩⟩) (Walk.gd _ rfl rfl rfl (fun h=>A9 rfl (A2 rfl h) (kn rfl) BJ) (A3 rfl rfl rfl (AP rfl (kn rfl) (fun hb=>A2 rfl hb)) (AC rfl rfl rfl rfl rfl .nil)))))))))))))))))))))))) ?_
 try refine A1 ?_
 exact A7 rfl rfl (.tmp (kn rfl) (.nil)) (AR rfl) rfl
theorem N9(e:Ed)(h1:B7 e.old)(h2:B7 e.new):EF Try.prog [] 35 [pP (ed e)] (.part (tP (vright e.old&&vright e.new && !DN e.old e.new))):=by
 refine AF 27 Try.func35 rfl rfl rfl fun w D=>?_
 try refine A1 ?_
 refine AX 0 rfl (Imp.pref_ref _) ?_
 refine A0 (AC rfl rfl rfl rfl rfl .nil) ?_
 try refine A1 ?_
 refine BZ C8 (by kernel_rfl) (A8 rfl rfl rfl rfl rfl (A3 rfl rfl rfl (AA rfl (kn rfl)) (A3 rfl rfl rfl (A6 rfl (kn rfl) off_32_1) (A3 rfl rfl rfl (AZ (vd e.old) 7 rfl (kn rfl) agg_27 sz_27 rfl rfl) (A3 rfl rfl rfl (AG rfl (by kernel_rfl) (F8 e.old h1) ⟨(kn rfl),trivial⟩) (A8 rfl rfl rfl rfl rfl (Walk.gd _ rfl rfl rfl (fun h=>AM rfl (kn rfl)) (Walk.gd _ rfl rfl rfl (fun h=>AA rfl (A2 rfl h)) (Walk.gd _ rfl rfl rfl (fun h=>A6 rfl (A2 rfl h) off_32_2) (Walk.gd _ rfl rfl rfl (fun h=>AZ (vd e.new) 7 rfl (A2 rfl h) agg_27 sz_27 rfl rfl) (Walk.gd _ rfl rfl rfl (fun h=>AG rfl (by kernel_rfl) (F8 e.new h2) ⟨(A2 rfl h),trivial⟩) (A3 rfl rfl rfl (AP rfl (kn rfl) (fun hb=>A2 rfl hb)) (A8 rfl rfl rfl rfl rfl (Walk.gd _ rfl rfl rfl (fun h=>AM rfl (kn rfl)) (Walk.gd _ rfl rfl rfl (fun h=>AA rfl (A2 rfl h)) (Walk.gd _ rfl rfl rfl (fun h=>A6 rfl (A2 rfl h) off_32_1) (Walk.gd _ rfl rfl rfl (fun h=>AZ (vd e.old) 7 rfl (A2 rfl h) agg_27 sz_27 rfl rfl) (Walk.gd _ rfl rfl rfl (fun h=>AM rfl (kn rfl)) (Walk.gd _ rfl rfl rfl (fun h=>AA rfl (A2 rfl h)) (Walk.gd _ rfl rfl rfl (fun h=>A6 rfl (A2 rfl h) off_32_2) (Walk.gd _ rfl rfl rfl (fun h=>AZ (vd e.new) 7 rfl (A2 rfl h) agg_27 sz_27 rfl rfl) (Walk.gd _ rfl rfl rfl (fun h=>AG rfl (by kernel_rfl) (ET e.old e.new h1 h2) ⟨(A2 rfl h),⟨(A2 rfl h),trivial⟩⟩) (Walk.gd _ rfl rfl rfl (fun h=>DL rfl (A2 rfl h)) (A3 rfl rfl rfl (AP rfl (kn rfl) (fun hb=>A2 rfl hb)) (AC rfl rfl rfl rfl rfl .nil))))))))))))))))))))))))) ?_
 try refine A1 ?_
 exact A7 rfl rfl (.tmp (kn rfl) (.nil)) (AR rfl) rfl
theorem LW(e:Ed):EF Try.prog [] 36 [pP (ed e)] (.part (tP (LR e))):=by
 refine AF 28 Try.func36 rfl rfl rfl fun w D=>?_
 try refine A1 ?_
 refine AX 0 rfl (Imp.pref_ref _) ?_
 refine A0 (AC rfl rfl rfl rfl rfl .nil) ?_
 try refine A1 ?_
 refine A0 (A8 rfl rfl rfl rfl rfl (A3 rfl rfl rfl (AA rfl (kn rfl)) (A3 rfl rfl rfl (A6 rfl (kn rfl) off_32_4) (A3 rfl rfl rfl (AD rfl (kn rfl) one_4) .nil)))) ?_
 try refine A1 ?_
 refine AE rfl (fun h=>?_) (fun h=>?_)
 ·try refine A1 ?_
  refine BZ C8 (by kernel_rfl) (A8 rfl rfl rfl rfl rfl (A3 rfl rfl rfl (AA rfl (kn rfl)) (A3 rfl rfl rfl (A6 rfl (kn rfl) off_32_5) (A3 rfl rfl rfl (AD rfl (kn rfl) one_9) (A8 rfl rfl rfl rfl rfl (A3 rfl rfl rfl (AA rfl (kn rfl)) (A3 rfl rfl rfl (A6 rfl (kn rfl) off_32_6) (A3 rfl rfl rfl (AD rfl (kn rfl) one_9) (A3 rfl rfl rfl (A9 rfl (kn rfl) (kn rfl) (WQ)) (AC rfl rfl rfl rfl rfl .nil)))))))))) ?_
  try refine A1 ?_
  exact A7 rfl rfl (.tmp (kn rfl) (.nil)) (AR (if_pos h).symm) rfl
 try refine A1 ?_
 refine A0 (A8 rfl rfl rfl rfl rfl (A3 rfl rfl rfl (AA rfl (kn rfl)) (A3 rfl rfl rfl (A6 rfl (kn rfl) off_32_5) (A3 rfl rfl rfl (AD rfl (kn rfl) one_9) (A3 rfl rfl rfl (A9 rfl (kn rfl) (kn rfl) (CU (b:=[]))) (A8 rfl rfl rfl rfl rfl (Walk.gd _ rfl rfl rfl (fun h=>AM rfl (kn rfl)) (Walk.gd _ rfl rfl rfl (fun h=>AA rfl (A2 rfl h)) (Walk.gd _ rfl rfl rfl (fun h=>A6 rfl (A2 rfl h) off_32_6) (Walk.gd _ rfl rfl rfl (fun h=>AD rfl (A2 rfl h) one_9) (Walk.gd _ rfl rfl rfl (fun h=>A9 rfl (A2 rfl h) (kn rfl) (CU (b:=[]))) (A3 rfl rfl rfl (AP rfl (kn rfl) (fun hb=>A2 rfl hb)) (AC rfl rfl rfl rfl rfl .nil))))))))))))) ?_
 try refine A1 ?_
 exact A7 rfl rfl (.tmp (kn rfl) (.nil)) (AR (if_neg (by rw[h];decide)).symm) rfl
theorem RN{α:Type}(l:List α):decide ((0:Int)<(l.length:Int)) = !l.isEmpty:=by
 cases l with
 | nil=>rfl
 | cons x l=>exact decide_eq_true (by simp only[List.length_cons];omega)
set_option maxHeartbeats 1000000 in
theorem P3(e:Ed)(hs:e.Sm)(ih:∀ x∈e.kids,ERt x):ERt e:=by
 unfold ERt
 have hl:=hs.lens
 obtain⟨_,o1,o2,_,_,_,h3,h4⟩:=hs.ok.all
 have s1:=o1.short (by decide)
 have s2:=o2.short (by decide)
 have hk:∀ x∈e.kids,B7 x.old/\B7 x.new:=fun x hx=>by
  obtain⟨_,a,b,_⟩:=(hs.kid hx).ok.all
  exact⟨a.short (by decide),b.short (by decide)⟩
 have q:=DF e
 refine AF 70 Try.func20 rfl rfl rfl fun w D=>?_
 try refine A1 ?_
 refine AX 0 rfl (Imp.pref_ref _) ?_
 refine A0 (AC rfl rfl rfl rfl rfl .nil) ?_
 try refine A1 ?_
 refine A0 (A8 rfl rfl rfl rfl rfl (A3 rfl rfl rfl (AG rfl (by kernel_rfl) (P4 e s1 s2) ⟨B4 (kn rfl) (Imp.ref_pref _),trivial⟩) (A3 rfl rfl rfl (DL rfl (kn rfl)) .nil))) ?_
 try refine A1 ?_
 refine AE rfl (fun b=>?_) (fun b=>?_)
 ·rw[Q0 b,Bool.false_and]at q
  try refine A1 ?_
  refine A0 (AC rfl rfl rfl rfl rfl .nil) ?_
  try refine A1 ?_
  exact A7 rfl rfl (.tmp (kn rfl) (.nil)) (AR q.symm) rfl
 rw[PT b,Bool.true_and]at q
 try refine A1 ?_
 refine A0 (A8 rfl rfl rfl rfl rfl (A3 rfl rfl rfl (AA rfl (kn rfl)) (A3 rfl rfl rfl (A6 rfl (kn rfl) off_32_0) (A3 rfl rfl rfl (AD rfl (kn rfl) one_3) .nil)))) ?_
 try refine A1 ?_
 try refine A1 ?_
 refine A0 (A3 rfl rfl rfl (A9 rfl (kn rfl) (kn rfl) AL) (AC rfl rfl rfl rfl rfl .nil)) ?_
 try refine A1 ?_
 refine AE rfl (fun c=>?_) (fun c=>?_)
 ·rw[if_pos (of_decide_eq_true c)]at q
  try refine A1 ?_
  refine A0 (AC rfl rfl rfl rfl rfl .nil) ?_
  try refine A1 ?_
  exact A7 rfl rfl (.tmp (kn rfl) (.nil)) (AR q.symm) rfl
 rw[if_neg (of_decide_eq_false c)]at q
 try refine A1 ?_
 refine A0 (A3 rfl rfl rfl (A9 rfl (kn rfl) (kn rfl) AL) (AC rfl rfl rfl rfl rfl .nil)) ?_
 try refine A1 ?_
 refine AE rfl (fun c=>?_) (fun c=>?_)
 ·rw[if_pos (of_decide_eq_true c)]at q
  try refine A1 ?_
  refine A0 (A8 rfl rfl rfl rfl rfl (A3 rfl rfl rfl (AG rfl (by kernel_rfl) (N9 e s1 s2) ⟨B4 (kn rfl) (Imp.ref_pref _),trivial⟩) (AC rfl rfl rfl rfl rfl .nil))) ?_
  try refine A1 ?_
  exact A7 rfl rfl (.tmp (kn rfl) (.nil)) (AR q.symm) rfl
 rw[if_neg (of_decide_eq_false c)]at q
 try refine A1 ?_
 refine A0 (A3 rfl rfl rfl (A9 rfl (kn rfl) (kn rfl) AL) (AC rfl rfl rfl rfl rfl .nil)) ?_
 try refine A1 ?_
 refine AE rfl (fun c=>?_) (fun c=>?_)
 ·rw[if_pos (of_decide_eq_true c),<- RN]at q
  try refine A1 ?_
  refine A0 (A8 rfl rfl rfl rfl rfl (A3 rfl rfl rfl (AG rfl (by kernel_rfl) (LW e) ⟨B4 (kn rfl) (Imp.ref_pref _),trivial⟩) (A8 rfl rfl rfl rfl rfl (Walk.gd _ rfl rfl rfl (fun h=>AM rfl (kn rfl)) (Walk.gd _ rfl rfl rfl (fun h=>AA rfl (A2 rfl h)) (Walk.gd _ rfl rfl rfl (fun h=>A6 rfl (A2 rfl h) off_32_4) (Walk.gd _ rfl rfl rfl (fun h=>AD rfl (A2 rfl h) one_4) (Walk.gd _ rfl rfl rfl (fun h=>AM rfl (A2 rfl h)) (Walk.gd _ rfl rfl rfl (fun h=>AM rfl (kn rfl)) (Walk.gd _ rfl rfl rfl (fun h=>AA rfl (A2 rfl h)) (Walk.gd _ rfl rfl rfl (fun h=>A6 rfl (A2 rfl h) off_32_3) (Walk.gd _ rfl rfl rfl (fun h=>AD rfl (A2 rfl h) one_28) (Walk.gd _ rfl rfl rfl (fun h=>AW rfl (A2 rfl h) sle_28) (Walk.gd _ rfl rfl rfl (fun h=>A9 rfl (A2 rfl h) (kn rfl) DQ) (Walk.gd _ rfl rfl rfl (fun h=>FK rfl (A2 rfl h) (fun hb=>A2 rfl (gb h hb))) (A3 rfl rfl rfl (AP rfl (kn rfl) (fun hb=>A2 rfl hb)) (A8 rfl rfl rfl rfl rfl (Walk.gd _ rfl rfl rfl (fun h=>AM rfl (kn rfl)) (Walk.gd _ rfl rfl rfl (fun h=>AA rfl (A2 rfl h)) (Walk.gd _ rfl rfl rfl (fun h=>A6 rfl (A2 rfl h) off_32_3) (Walk.gd _ rfl rfl rfl (fun h=>AD rfl (A2 rfl h) one_28) (Walk.gd _ rfl rfl rfl (fun h=>AG rfl (by kernel_rfl) (SO 38 39 (by kernel_rfl) (by kernel_rfl) e.fields (by omega) HG EZ (fun x hx=>LX x (ih _ (Ed.kid_f hx))) (fun x _ y _=>LV x y)) ⟨(A2 rfl h),⟨(kn rfl),⟨(kn rfl),trivial⟩⟩⟩) (A3 rfl rfl rfl (AP rfl (kn rfl) (fun hb=>A2 rfl hb)) (AC rfl rfl rfl rfl rfl .nil)))))))))))))))))))))))) ?_
  try refine A1 ?_
  exact A7 rfl rfl (.tmp (kn rfl) (.nil)) (AR q.symm) rfl
 rw[if_neg (of_decide_eq_false c)]at q
 try refine A1 ?_
 refine A0 (A3 rfl rfl rfl (A9 rfl (kn rfl) (kn rfl) AL) (AC rfl rfl rfl rfl rfl .nil)) ?_
 try refine A1 ?_
 refine AE rfl (fun c=>?_) (fun c=>?_)
 ·rw[if_pos (of_decide_eq_true c)]at q
  try refine A1 ?_
  refine A0 (A8 rfl rfl rfl rfl rfl (A3 rfl rfl rfl (AA rfl (kn rfl)) (A3 rfl rfl rfl (A6 rfl (kn rfl) off_32_7) (A3 rfl rfl rfl (AD rfl (kn rfl) one_29) (A3 rfl rfl rfl (AG rfl (by kernel_rfl) (WG 41 (by kernel_rfl) e.steps (by omega) J2 (fun x _=>TC x)) ⟨(kn rfl),⟨(kn rfl),trivial⟩⟩) (A8 rfl rfl rfl rfl rfl (Walk.gd _ rfl rfl rfl (fun h=>AM rfl (kn rfl)) (Walk.gd _ rfl rfl rfl (fun h=>AA rfl (A2 rfl h)) (Walk.gd _ rfl rfl rfl (fun h=>A6 rfl (A2 rfl h) off_32_7) (Walk.gd _ rfl rfl rfl (fun h=>AD rfl (A2 rfl h) one_29) (Walk.gd _ rfl rfl rfl (fun h=>AG rfl (by kernel_rfl) (SA 43 44 (by kernel_rfl) (by kernel_rfl) e.steps (by omega) C6 C3 (fun x hx=>NG x ((h3 x hx).2.2.2.short (by decide)) (hk _ (Ed.kid_s hx)).1 (hk _ (Ed.kid_s hx)).2 (ih _ (Ed.kid_s hx))) (fun x _ y _=>NO x y)) ⟨(A2 rfl h),⟨(kn rfl),⟨(kn rfl),trivial⟩⟩⟩) (A3 rfl rfl rfl (AP rfl (kn rfl) (fun hb=>A2 rfl hb)) (AC rfl rfl rfl rfl rfl .nil))))))))))))) ?_
  try refine A1 ?_
  exact A7 rfl rfl (.tmp (kn rfl) (.nil)) (AR q.symm) rfl
 rw[if_neg (of_decide_eq_false c)]at q
 try refine A1 ?_
 refine A0 (A3 rfl rfl rfl (A9 rfl (kn rfl) (kn rfl) AL) (AC rfl rfl rfl rfl rfl .nil)) ?_
 try refine A1 ?_
 refine AE rfl (fun c=>?_) (fun c=>?_)
 ·rw[if_pos (of_decide_eq_true c),<- RN]at q
  try refine A1 ?_
  refine A0 (A8 rfl rfl rfl rfl rfl (A3 rfl rfl rfl (AA rfl (kn rfl)) (A3 rfl rfl rfl (A6 rfl (kn rfl) off_32_8) (A3 rfl rfl rfl (AD rfl (kn rfl) one_30) (A3 rfl rfl rfl (AW rfl (kn rfl) sle_30) (A3 rfl rfl rfl (A9 rfl (kn rfl) (kn rfl) DQ) (A8 rfl rfl rfl rfl rfl (Walk.gd _ rfl rfl rfl (fun h=>AM rfl (kn rfl)) (Walk.gd _ rfl rfl rfl (fun h=>AA rfl (A2 rfl h)) (Walk.gd _ rfl rfl rfl (fun h=>A6 rfl (A2 rfl h) off_32_8) (Walk.gd _ rfl rfl rfl (fun h=>AD rfl (A2 rfl h) one_30) (Walk.gd _ rfl rfl rfl (fun h=>AG rfl (by kernel_rfl) (SQ 46 47 (by kernel_rfl) (by kernel_rfl) e.keys (by omega) R8 JS (fun x hx=>PD x ((h4 x hx).short (by decide)) (ih _ (Ed.kid_k hx))) (fun x hx y hy=>OT x y ((h4 x hx).short (by decide)) ((h4 y hy).short (by decide)))) ⟨(A2 rfl h),⟨(kn rfl),⟨(kn rfl),trivial⟩⟩⟩) (A3 rfl rfl rfl (AP rfl (kn rfl) (fun hb=>A2 rfl hb)) (AC rfl rfl rfl rfl rfl .nil)))))))))))))) ?_
  try refine A1 ?_
  exact A7 rfl rfl (.tmp (kn rfl) (.nil)) (AR q.symm) rfl
 rw[if_neg (of_decide_eq_false c)]at q
 try refine A1 ?_
 refine A0 (AC rfl rfl rfl rfl rfl .nil) ?_
 try refine A1 ?_
 exact A7 rfl rfl (.tmp (kn rfl) (.nil)) (AR q.symm) rfl
theorem WD(e:Ed):e.Sm->ERt e:=Ed.kids_ind (P:=fun e=>e.Sm->ERt e) (fun e ih h=>P3 e h fun x hx=>ih x hx (h.kid hx)) e
theorem J6(e:Ed)(hs:e.Sm):EF Try.prog [] 8 [.many (ed e)] (.part (tP (B5 e))):=by
 refine AF 4 Try.func8 rfl rfl rfl fun w D=>?_
 try refine A1 ?_
 refine AI ?_
 refine BS 1 rfl rfl rfl rfl (kn rfl) rfl rfl rfl rfl ?_
 refine C7 ?_
 refine AH ?_
 try refine A1 ?_
 refine JA 1 1 rfl rfl rfl ?_
 refine AX 1 rfl ((Imp.ptr_ref _ _).trans (Imp.ref_pref _)) ?_
 refine A0 (A3 rfl rfl rfl (AG rfl (by kernel_rfl) (WD e hs) ⟨(kn rfl),trivial⟩) (AC rfl rfl rfl rfl rfl .nil)) ?_
 try refine A1 ?_
 exact A7 rfl rfl (.tmp (kn rfl) (.nil)) (Imp.of_eq rfl) rfl
end Go.Proofs.Ytecfdcdkkgmkpaa
