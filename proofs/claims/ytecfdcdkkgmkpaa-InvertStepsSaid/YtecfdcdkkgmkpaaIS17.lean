/- Part 17. Conditions: as each theorem says. -/
import Derived.Test.YtecfdcdkkgmkpaaIS16
import Derived.Test.YtecfdcdkkgmkpaaProg
set_option maxRecDepth 100000
namespace Go.Proofs.Ytecfdcdkkgmkpaa
open Go.RowKit
def ERt(e:Ed):Prop:=EF Try.prog [] 20 [pP (ed e)] (.part (tP (AU e)))
theorem FI(e:Ed)(hE:ERt e):EF Try.prog [] 89 [pP (ed e)] (.part (tP (!decide (e.kind=0)&&AU e))):=by
 refine AF 12 Try.func89 rfl rfl rfl fun w D=>?_
 try refine A1 ?_
 refine BK 0 rfl (Imp.pref_ref _) ?_
 refine A0 (AC rfl rfl rfl rfl rfl .nil) ?_
 try refine A1 ?_
 refine A0 (A8 rfl rfl rfl rfl rfl (A4 rfl rfl rfl (AJ rfl (kn rfl)) (A4 rfl rfl rfl (AA rfl (kn rfl) off_32_0) (A4 rfl rfl rfl (AI rfl (kn rfl) one_3) (A4 rfl rfl rfl (A6 rfl (kn rfl) (kn rfl) D8) (A8 rfl rfl rfl rfl rfl (Walk.gd _ rfl rfl rfl (fun h=>AS rfl (kn rfl)) (Walk.gd _ rfl rfl rfl (fun h=>AH rfl (by kernel_rfl) (hE) ⟨C5 (A2 rfl h) (Imp.ref_pref _),trivial⟩) (A4 rfl rfl rfl (AN rfl (kn rfl) (fun hb=>A2 rfl hb)) (AC rfl rfl rfl rfl rfl .nil)))))))))) ?_
 try refine A1 ?_
 exact A7 rfl rfl (.tmp (kn rfl) (.nil)) (AT rfl) rfl
theorem KR(p:Int×Ed)(hE:ERt p.2):EF Try.prog [] 38 [pP (efd p)] (.part (tP (H9 p))):=by
 refine AF 21 Try.func38 rfl rfl rfl fun w D=>?_
 try refine A1 ?_
 refine BK 0 rfl (Imp.pref_ref _) ?_
 refine A0 (AC rfl rfl rfl rfl rfl .nil) ?_
 try refine A1 ?_
 refine A0 (A8 rfl rfl rfl rfl rfl (A4 rfl rfl rfl (AJ rfl (kn rfl)) (A4 rfl rfl rfl (AA rfl (kn rfl) off_61_0) (A4 rfl rfl rfl (AI rfl (kn rfl) one_3) (A4 rfl rfl rfl (A6 rfl (kn rfl) (kn rfl) CW) (A8 rfl rfl rfl rfl rfl (Walk.gd _ rfl rfl rfl (fun h=>AS rfl (kn rfl)) (Walk.gd _ rfl rfl rfl (fun h=>AJ rfl (A2 rfl h)) (Walk.gd _ rfl rfl rfl (fun h=>AA rfl (A2 rfl h) off_61_0) (Walk.gd _ rfl rfl rfl (fun h=>AI rfl (A2 rfl h) one_3) (Walk.gd _ rfl rfl rfl (fun h=>A6 rfl (A2 rfl h) (kn rfl) NJ) (A4 rfl rfl rfl (AN rfl (kn rfl) (fun hb=>A2 rfl hb)) (A8 rfl rfl rfl rfl rfl (Walk.gd _ rfl rfl rfl (fun h=>AS rfl (kn rfl)) (Walk.gd _ rfl rfl rfl (fun h=>AJ rfl (A2 rfl h)) (Walk.gd _ rfl rfl rfl (fun h=>AA rfl (A2 rfl h) off_61_1) (Walk.gd _ rfl rfl rfl (fun h=>AH rfl (by kernel_rfl) (FI p.2 hE) ⟨C5 (A2 rfl h) (Imp.ref_pref _),trivial⟩) (A4 rfl rfl rfl (AN rfl (kn rfl) (fun hb=>A2 rfl hb)) (AC rfl rfl rfl rfl rfl .nil))))))))))))))))))) ?_
 try refine A1 ?_
 exact A7 rfl rfl (.tmp (kn rfl) (.nil)) (AT rfl) rfl
theorem KZ(p q:Int×Ed):EF Try.prog [] 39 [pP (efd p),pP (efd q)] (.part (tP (EL p q))):=by
 refine AF 14 Try.func39 rfl rfl rfl fun w D=>?_
 try refine A1 ?_
 refine BK 0 rfl (Imp.pref_ref _) ?_
 refine BK 1 rfl (Imp.pref_ref _) ?_
 refine A0 (AC rfl rfl rfl rfl rfl .nil) ?_
 try refine A1 ?_
 refine DV DX (by kernel_rfl) (A8 rfl rfl rfl rfl rfl (A4 rfl rfl rfl (AJ rfl (kn rfl)) (A4 rfl rfl rfl (AA rfl (kn rfl) off_61_0) (A4 rfl rfl rfl (AI rfl (kn rfl) one_3) (A8 rfl rfl rfl rfl rfl (A4 rfl rfl rfl (AJ rfl (kn rfl)) (A4 rfl rfl rfl (AA rfl (kn rfl) off_61_0) (A4 rfl rfl rfl (AI rfl (kn rfl) one_3) (A4 rfl rfl rfl (A6 rfl (kn rfl) (kn rfl) BM) (AC rfl rfl rfl rfl rfl .nil)))))))))) ?_
 try refine A1 ?_
 exact A7 rfl rfl (.tmp (kn rfl) (.nil)) (AT rfl) rfl
theorem QS(p:(Int×Int×Vl)×Ed):EF Try.prog [] 41 [pP (esd p)] (.part (tP (IF p))):=by
 refine AF 8 Try.func41 rfl rfl rfl fun w D=>?_
 try refine A1 ?_
 refine BK 0 rfl (Imp.pref_ref _) ?_
 refine A0 (AC rfl rfl rfl rfl rfl .nil) ?_
 try refine A1 ?_
 refine A0 (A8 rfl rfl rfl rfl rfl (A4 rfl rfl rfl (AJ rfl (kn rfl)) (A4 rfl rfl rfl (AA rfl (kn rfl) off_76_0) (A4 rfl rfl rfl (AI rfl (kn rfl) one_3) (A4 rfl rfl rfl (A6 rfl (kn rfl) (kn rfl) D8) (AC rfl rfl rfl rfl rfl .nil)))))) ?_
 try refine A1 ?_
 exact A7 rfl rfl (.tmp (kn rfl) (.nil)) (AT rfl) rfl
theorem M8(p q:(Int×Int×Vl)×Ed):EF Try.prog [] 44 [pP (esd p),pP (esd q)] (.part (tP (BX p q))):=by
 refine AF 23 Try.func44 rfl rfl rfl fun w D=>?_
 try refine A1 ?_
 refine BK 0 rfl (Imp.pref_ref _) ?_
 refine BK 1 rfl (Imp.pref_ref _) ?_
 refine A0 (AC rfl rfl rfl rfl rfl .nil) ?_
 try refine A1 ?_
 refine A0 (A8 rfl rfl rfl rfl rfl (A4 rfl rfl rfl (AJ rfl (kn rfl)) (A4 rfl rfl rfl (AA rfl (kn rfl) off_76_0) (A4 rfl rfl rfl (AI rfl (kn rfl) one_3) .nil)))) ?_
 try refine A1 ?_
 try refine A1 ?_
 refine A0 (A4 rfl rfl rfl (A6 rfl (kn rfl) (kn rfl) AL) (AC rfl rfl rfl rfl rfl .nil)) ?_
 try refine A1 ?_
 refine AB rfl (fun h=>?_) (fun h=>?_)
 ·try refine A1 ?_
  refine A0 (A8 rfl rfl rfl rfl rfl (A4 rfl rfl rfl (AJ rfl (kn rfl)) (A4 rfl rfl rfl (AA rfl (kn rfl) off_76_0) (A4 rfl rfl rfl (AI rfl (kn rfl) one_3) (A4 rfl rfl rfl (A6 rfl (kn rfl) (kn rfl) D8) (AC rfl rfl rfl rfl rfl .nil)))))) ?_
  try refine A1 ?_
  exact A7 rfl rfl (.tmp (kn rfl) (.nil)) (AT (if_pos (of_decide_eq_true h)).symm) rfl
 try refine A1 ?_
 refine A0 (A4 rfl rfl rfl (A6 rfl (kn rfl) (kn rfl) AL) (AC rfl rfl rfl rfl rfl .nil)) ?_
 try refine A1 ?_
 refine AB rfl (fun h3=>?_) (fun h3=>?_)
 ·try refine A1 ?_
  refine A0 (A8 rfl rfl rfl rfl rfl (A4 rfl rfl rfl (AJ rfl (kn rfl)) (A4 rfl rfl rfl (AA rfl (kn rfl) off_76_0) (A4 rfl rfl rfl (AI rfl (kn rfl) one_3) (A4 rfl rfl rfl (A6 rfl (kn rfl) (kn rfl) D8) (AC rfl rfl rfl rfl rfl .nil)))))) ?_
  try refine A1 ?_
  exact A7 rfl rfl (.tmp (kn rfl) (.nil)) (AT ((if_neg (of_decide_eq_false h)).trans (if_pos (of_decide_eq_true h3))).symm) rfl
 try refine A1 ?_
 refine A0 (AC rfl rfl rfl rfl rfl .nil) ?_
 try refine A1 ?_
 exact A7 rfl rfl (.tmp (kn rfl) (.nil)) (AT ((if_neg (of_decide_eq_false h)).trans (if_neg (of_decide_eq_false h3))).symm) rfl
theorem JI(x:Ed):(decide (x.kind=0)&&AU x)=(decide (x.kind=0)&&DT x):=by
 by_cases h:x.kind=0
 ·rw[D3,if_pos h,Bool.and_true]
 ·rw[decide_eq_false h,Bool.false_and,Bool.false_and]
theorem QM(v:Vl):(decide (1<=v.kind)&&decide (v.kind<=3)&&vright v)=KA v:=by
 unfold KA
 congr 1
 rw[<- Bool.decide_and,<- Bool.decide_or,<- Bool.decide_or]
 exact decide_eq_decide.2 (by omega)
theorem OX:DT EC=true:=by
 unfold DT EC
 simp[Ed.kind,Ed.old,Ed.new,Ed.fields,Ed.rests,Ed.ro,Ed.rn,Ed.steps,Ed.keys,DK]
theorem PP(s:(Int×Int×Vl)×Ed):BS s=(RU s&&(if s.1.1=1 then decide (1<=s.1.2.1)&&decide (s.1.2.1<=1048576)else if s.1.1=2\/s.1.1=3 then KA s.1.2.2 else if s.1.1=4 then !decide (s.2.kind=0)&&AU s.2 else false)):=by
 unfold BS HA RU D1
 by_cases k1:s.1.1=1
 ·simp only[if_pos k1,JI]
  cases DG s.1.2.2<;>cases DT s.2<;>simp
  cases decide (s.2.kind=0)<;>simp
 by_cases k2:s.1.1=2\/s.1.1=3
 ·simp only[if_neg k1,if_pos k2,JI,DK]
  cases KA s.1.2.2<;>cases DT s.2<;>simp
 by_cases k4:s.1.1=4
 ·simp only[if_neg k1,if_neg k2,if_pos k4,OX]
  simp[EC,Ed.kind,Bool.and_assoc]
 simp only[if_neg k1,if_neg k2,if_neg k4,Bool.and_false]
set_option maxHeartbeats 1000000 in
theorem MR(p:(Int×Int×Vl)×Ed)(h1:B6 p.1.2.2)(h2:B6 p.2.old)(h3:B6 p.2.new)(hE:ERt p.2):EF Try.prog [] 43 [pP (esd p)] (.part (tP (BS p))):=by
 have q:=PP p
 refine AF 54 Try.func43 rfl rfl rfl fun w D=>?_
 try refine A1 ?_
 refine BK 0 rfl (Imp.pref_ref _) ?_
 refine A0 (AC rfl rfl rfl rfl rfl .nil) ?_
 try refine A1 ?_
 refine A0 (A8 rfl rfl rfl rfl rfl (A4 rfl rfl rfl (AH rfl (by kernel_rfl) (SF p h1 h2 h3) ⟨C5 (kn rfl) (Imp.ref_pref _),trivial⟩) (A4 rfl rfl rfl (DL rfl (kn rfl)) .nil))) ?_
 try refine A1 ?_
 refine AB rfl (fun b=>?_) (fun b=>?_)
 ·rw[U0 b,Bool.false_and]at q
  try refine A1 ?_
  refine A0 (AC rfl rfl rfl rfl rfl .nil) ?_
  try refine A1 ?_
  exact A7 rfl rfl (.tmp (kn rfl) (.nil)) (AT q.symm) rfl
 rw[TZ b,Bool.true_and]at q
 try refine A1 ?_
 refine A0 (A8 rfl rfl rfl rfl rfl (A4 rfl rfl rfl (AJ rfl (kn rfl)) (A4 rfl rfl rfl (AA rfl (kn rfl) off_76_0) (A4 rfl rfl rfl (AI rfl (kn rfl) one_3) .nil)))) ?_
 try refine A1 ?_
 try refine A1 ?_
 refine A0 (A4 rfl rfl rfl (A6 rfl (kn rfl) (kn rfl) AL) (AC rfl rfl rfl rfl rfl .nil)) ?_
 try refine A1 ?_
 refine AB rfl (fun k1=>?_) (fun k1=>?_)
 ·rw[if_pos (of_decide_eq_true k1)]at q
  try refine A1 ?_
  refine A0 (A8 rfl rfl rfl rfl rfl (A4 rfl rfl rfl (AJ rfl (kn rfl)) (A4 rfl rfl rfl (AA rfl (kn rfl) off_76_1) (A4 rfl rfl rfl (AI rfl (kn rfl) one_3) (A4 rfl rfl rfl (A6 rfl (kn rfl) (kn rfl) CW) (A8 rfl rfl rfl rfl rfl (Walk.gd _ rfl rfl rfl (fun h=>AS rfl (kn rfl)) (Walk.gd _ rfl rfl rfl (fun h=>AJ rfl (A2 rfl h)) (Walk.gd _ rfl rfl rfl (fun h=>AA rfl (A2 rfl h) off_76_1) (Walk.gd _ rfl rfl rfl (fun h=>AI rfl (A2 rfl h) one_3) (Walk.gd _ rfl rfl rfl (fun h=>A6 rfl (A2 rfl h) (kn rfl) NJ) (A4 rfl rfl rfl (AN rfl (kn rfl) (fun hb=>A2 rfl hb)) (AC rfl rfl rfl rfl rfl .nil))))))))))))) ?_
  try refine A1 ?_
  exact A7 rfl rfl (.tmp (kn rfl) (.nil)) (AT q.symm) rfl
 rw[if_neg (of_decide_eq_false k1)]at q
 try refine A1 ?_
 refine A0 (A4 rfl rfl rfl (A6 rfl (kn rfl) (kn rfl) AL) (AC rfl rfl rfl rfl rfl .nil)) ?_
 try refine A1 ?_
 refine MT (ι:=Unit) (fun _=>[(0,.ref (esd p)),(9,.is (.int .i64 p.1.1)),(24,.is (.bool (decide (p.1.1=2\/p.1.1=3))))]) (fun _=>[]) (fun _=>[]) ?_ (fun _=>?_)
 ·refine AB rfl (fun s2=>?_) (fun s2=>?_)
  ·try refine A1 ?_
   refine DB () (fun K=>AM ⟨s_t,s_t,⟨_,rfl,Imp.of_eq (by rw[decide_eq_true (Or.inl (of_decide_eq_true s2)),s2])⟩,trivial⟩ trivial trivial)
  try refine A1 ?_
  refine A0 (A4 rfl rfl rfl (A6 rfl (kn rfl) (kn rfl) AL) (AC rfl rfl rfl rfl rfl .nil)) ?_
  try refine A1 ?_
  refine DB () (fun K=>AM ⟨s_t,s_t,⟨_,rfl,Imp.of_eq (by have:=of_decide_eq_false s2;simp[this])⟩,trivial⟩ trivial trivial)
 try refine A1 ?_
 refine AB rfl (fun k2=>?_) (fun k2=>?_)
 ·rw[if_pos (of_decide_eq_true k2)]at q
  try refine A1 ?_
  refine A0 (A8 rfl rfl rfl rfl rfl (A4 rfl rfl rfl (AJ rfl (kn rfl)) (A4 rfl rfl rfl (AA rfl (kn rfl) off_76_2) (A4 rfl rfl rfl (AA rfl (kn rfl) off_27_0) (A4 rfl rfl rfl (AI rfl (kn rfl) one_3) (A4 rfl rfl rfl (A6 rfl (kn rfl) (kn rfl) CW) (A8 rfl rfl rfl rfl rfl (Walk.gd _ rfl rfl rfl (fun h=>AS rfl (kn rfl)) (Walk.gd _ rfl rfl rfl (fun h=>AJ rfl (A2 rfl h)) (Walk.gd _ rfl rfl rfl (fun h=>AA rfl (A2 rfl h) off_76_2) (Walk.gd _ rfl rfl rfl (fun h=>AA rfl (A2 rfl h) off_27_0) (Walk.gd _ rfl rfl rfl (fun h=>AI rfl (A2 rfl h) one_3) (Walk.gd _ rfl rfl rfl (fun h=>A6 rfl (A2 rfl h) (kn rfl) NJ) (A4 rfl rfl rfl (AN rfl (kn rfl) (fun hb=>A2 rfl hb)) (A8 rfl rfl rfl rfl rfl (Walk.gd _ rfl rfl rfl (fun h=>AS rfl (kn rfl)) (Walk.gd _ rfl rfl rfl (fun h=>AJ rfl (A2 rfl h)) (Walk.gd _ rfl rfl rfl (fun h=>AA rfl (A2 rfl h) off_76_2) (Walk.gd _ rfl rfl rfl (fun h=>BI (vd p.1.2.2) 7 rfl (A2 rfl h) agg_27 sz_27 rfl rfl) (Walk.gd _ rfl rfl rfl (fun h=>AH rfl (by kernel_rfl) (EW p.1.2.2 h1) ⟨(A2 rfl h),trivial⟩) (A4 rfl rfl rfl (AN rfl (kn rfl) (fun hb=>A2 rfl hb)) (AC rfl rfl rfl rfl rfl .nil)))))))))))))))))))))) ?_
  try refine A1 ?_
  exact A7 rfl rfl (.tmp (kn rfl) (.nil)) (AT (by rw[q];exact QM _)) rfl
 rw[if_neg (of_decide_eq_false k2)]at q
 try refine A1 ?_
 refine A0 (A4 rfl rfl rfl (A6 rfl (kn rfl) (kn rfl) AL) (AC rfl rfl rfl rfl rfl .nil)) ?_
 try refine A1 ?_
 refine AB rfl (fun k4=>?_) (fun k4=>?_)
 ·rw[if_pos (of_decide_eq_true k4)]at q
  try refine A1 ?_
  refine A0 (A8 rfl rfl rfl rfl rfl (A4 rfl rfl rfl (AJ rfl (kn rfl)) (A4 rfl rfl rfl (AA rfl (kn rfl) off_76_3) (A4 rfl rfl rfl (AH rfl (by kernel_rfl) (FI p.2 hE) ⟨C5 (kn rfl) (Imp.ref_pref _),trivial⟩) (AC rfl rfl rfl rfl rfl .nil))))) ?_
  try refine A1 ?_
  exact A7 rfl rfl (.tmp (kn rfl) (.nil)) (AT q.symm) rfl
 rw[if_neg (of_decide_eq_false k4)]at q
 try refine A1 ?_
 refine A0 (AC rfl rfl rfl rfl rfl .nil) ?_
 try refine A1 ?_
 exact A7 rfl rfl (.tmp (kn rfl) (.nil)) (AT q.symm) rfl
theorem NE(p:Vl×Ed)(h1:B6 p.1)(hE:ERt p.2):EF Try.prog [] 46 [pP (ekd p)] (.part (tP (OU p))):=by
 refine AF 30 Try.func46 rfl rfl rfl fun w D=>?_
 try refine A1 ?_
 refine BK 0 rfl (Imp.pref_ref _) ?_
 refine A0 (AC rfl rfl rfl rfl rfl .nil) ?_
 try refine A1 ?_
 refine A0 (A8 rfl rfl rfl rfl rfl (A4 rfl rfl rfl (AJ rfl (kn rfl)) (A4 rfl rfl rfl (AA rfl (kn rfl) off_65_0) (A4 rfl rfl rfl (AA rfl (kn rfl) off_27_0) (A4 rfl rfl rfl (AI rfl (kn rfl) one_3) (A4 rfl rfl rfl (A6 rfl (kn rfl) (kn rfl) AL) (A8 rfl rfl rfl rfl rfl (Walk.gd _ rfl rfl rfl (fun h=>AS rfl (kn rfl)) (Walk.gd _ rfl rfl rfl (fun h=>AJ rfl (A2 rfl h)) (Walk.gd _ rfl rfl rfl (fun h=>AA rfl (A2 rfl h) off_65_0) (Walk.gd _ rfl rfl rfl (fun h=>AA rfl (A2 rfl h) off_27_0) (Walk.gd _ rfl rfl rfl (fun h=>AI rfl (A2 rfl h) one_3) (Walk.gd _ rfl rfl rfl (fun h=>A6 rfl (A2 rfl h) (kn rfl) AL) (A4 rfl rfl rfl (ES rfl (kn rfl) (fun hb=>A2 rfl hb)) (A8 rfl rfl rfl rfl rfl (Walk.gd _ rfl rfl rfl (fun h=>AS rfl (kn rfl)) (Walk.gd _ rfl rfl rfl (fun h=>AJ rfl (A2 rfl h)) (Walk.gd _ rfl rfl rfl (fun h=>AA rfl (A2 rfl h) off_65_0) (Walk.gd _ rfl rfl rfl (fun h=>BI (vd p.1) 7 rfl (A2 rfl h) agg_27 sz_27 rfl rfl) (Walk.gd _ rfl rfl rfl (fun h=>AH rfl (by kernel_rfl) (EW p.1 h1) ⟨(A2 rfl h),trivial⟩) (A4 rfl rfl rfl (AN rfl (kn rfl) (fun hb=>A2 rfl hb)) (A8 rfl rfl rfl rfl rfl (Walk.gd _ rfl rfl rfl (fun h=>AS rfl (kn rfl)) (Walk.gd _ rfl rfl rfl (fun h=>AJ rfl (A2 rfl h)) (Walk.gd _ rfl rfl rfl (fun h=>AA rfl (A2 rfl h) off_65_1) (Walk.gd _ rfl rfl rfl (fun h=>AH rfl (by kernel_rfl) (FI p.2 hE) ⟨C5 (A2 rfl h) (Imp.ref_pref _),trivial⟩) (A4 rfl rfl rfl (AN rfl (kn rfl) (fun hb=>A2 rfl hb)) (AC rfl rfl rfl rfl rfl .nil)))))))))))))))))))))))))))) ?_
 try refine A1 ?_
 exact A7 rfl rfl (.tmp (kn rfl) (.nil)) (AT rfl) rfl
theorem O9(p q:Vl×Ed)(h1:B6 p.1)(h2:B6 q.1):EF Try.prog [] 47 [pP (ekd p),pP (ekd q)] (.part (tP (IU p q))):=by
 refine AF 28 Try.func47 rfl rfl rfl fun w D=>?_
 try refine A1 ?_
 refine BK 0 rfl (Imp.pref_ref _) ?_
 refine BK 1 rfl (Imp.pref_ref _) ?_
 refine A0 (AC rfl rfl rfl rfl rfl .nil) ?_
 try refine A1 ?_
 refine DV DX (by kernel_rfl) (A8 rfl rfl rfl rfl rfl (A4 rfl rfl rfl (AJ rfl (kn rfl)) (A4 rfl rfl rfl (AA rfl (kn rfl) off_65_0) (A4 rfl rfl rfl (AA rfl (kn rfl) off_27_0) (A4 rfl rfl rfl (AI rfl (kn rfl) one_3) (A8 rfl rfl rfl rfl rfl (A4 rfl rfl rfl (AJ rfl (kn rfl)) (A4 rfl rfl rfl (AA rfl (kn rfl) off_65_0) (A4 rfl rfl rfl (AA rfl (kn rfl) off_27_0) (A4 rfl rfl rfl (AI rfl (kn rfl) one_3) (A4 rfl rfl rfl (A6 rfl (kn rfl) (kn rfl) AL) (A8 rfl rfl rfl rfl rfl (Walk.gd _ rfl rfl rfl (fun h=>AS rfl (kn rfl)) (Walk.gd _ rfl rfl rfl (fun h=>AJ rfl (A2 rfl h)) (Walk.gd _ rfl rfl rfl (fun h=>AA rfl (A2 rfl h) off_65_0) (Walk.gd _ rfl rfl rfl (fun h=>BI (vd p.1) 7 rfl (A2 rfl h) agg_27 sz_27 rfl rfl) (Walk.gd _ rfl rfl rfl (fun h=>AS rfl (kn rfl)) (Walk.gd _ rfl rfl rfl (fun h=>AJ rfl (A2 rfl h)) (Walk.gd _ rfl rfl rfl (fun h=>AA rfl (A2 rfl h) off_65_0) (Walk.gd _ rfl rfl rfl (fun h=>BI (vd q.1) 7 rfl (A2 rfl h) agg_27 sz_27 rfl rfl) (Walk.gd _ rfl rfl rfl (fun h=>AH rfl (by kernel_rfl) (FZ p.1 h1 q.1 h2) ⟨(A2 rfl h),⟨(A2 rfl h),trivial⟩⟩) (Walk.gd _ rfl rfl rfl (fun h=>A6 rfl (A2 rfl h) (kn rfl) BM) (A4 rfl rfl rfl (AN rfl (kn rfl) (fun hb=>A2 rfl hb)) (AC rfl rfl rfl rfl rfl .nil)))))))))))))))))))))))) ?_
 try refine A1 ?_
 exact A7 rfl rfl (.tmp (kn rfl) (.nil)) (AT rfl) rfl
theorem MS(e:Ed)(h1:B6 e.old)(h2:B6 e.new):EF Try.prog [] 35 [pP (ed e)] (.part (tP (vright e.old&&vright e.new && !GM e.old e.new))):=by
 refine AF 27 Try.func35 rfl rfl rfl fun w D=>?_
 try refine A1 ?_
 refine BK 0 rfl (Imp.pref_ref _) ?_
 refine A0 (AC rfl rfl rfl rfl rfl .nil) ?_
 try refine A1 ?_
 refine DV DX (by kernel_rfl) (A8 rfl rfl rfl rfl rfl (A4 rfl rfl rfl (AJ rfl (kn rfl)) (A4 rfl rfl rfl (AA rfl (kn rfl) off_32_1) (A4 rfl rfl rfl (BI (vd e.old) 7 rfl (kn rfl) agg_27 sz_27 rfl rfl) (A4 rfl rfl rfl (AH rfl (by kernel_rfl) (EW e.old h1) ⟨(kn rfl),trivial⟩) (A8 rfl rfl rfl rfl rfl (Walk.gd _ rfl rfl rfl (fun h=>AS rfl (kn rfl)) (Walk.gd _ rfl rfl rfl (fun h=>AJ rfl (A2 rfl h)) (Walk.gd _ rfl rfl rfl (fun h=>AA rfl (A2 rfl h) off_32_2) (Walk.gd _ rfl rfl rfl (fun h=>BI (vd e.new) 7 rfl (A2 rfl h) agg_27 sz_27 rfl rfl) (Walk.gd _ rfl rfl rfl (fun h=>AH rfl (by kernel_rfl) (EW e.new h2) ⟨(A2 rfl h),trivial⟩) (A4 rfl rfl rfl (AN rfl (kn rfl) (fun hb=>A2 rfl hb)) (A8 rfl rfl rfl rfl rfl (Walk.gd _ rfl rfl rfl (fun h=>AS rfl (kn rfl)) (Walk.gd _ rfl rfl rfl (fun h=>AJ rfl (A2 rfl h)) (Walk.gd _ rfl rfl rfl (fun h=>AA rfl (A2 rfl h) off_32_1) (Walk.gd _ rfl rfl rfl (fun h=>BI (vd e.old) 7 rfl (A2 rfl h) agg_27 sz_27 rfl rfl) (Walk.gd _ rfl rfl rfl (fun h=>AS rfl (kn rfl)) (Walk.gd _ rfl rfl rfl (fun h=>AJ rfl (A2 rfl h)) (Walk.gd _ rfl rfl rfl (fun h=>AA rfl (A2 rfl h) off_32_2) (Walk.gd _ rfl rfl rfl (fun h=>BI (vd e.new) 7 rfl (A2 rfl h) agg_27 sz_27 rfl rfl) (Walk.gd _ rfl rfl rfl (fun h=>AH rfl (by kernel_rfl) (HQ e.old e.new h1 h2) ⟨(A2 rfl h),⟨(A2 rfl h),trivial⟩⟩) (Walk.gd _ rfl rfl rfl (fun h=>DL rfl (A2 rfl h)) (A4 rfl rfl rfl (AN rfl (kn rfl) (fun hb=>A2 rfl hb)) (AC rfl rfl rfl rfl rfl .nil))))))))))))))))))))))))) ?_
 try refine A1 ?_
 exact A7 rfl rfl (.tmp (kn rfl) (.nil)) (AT rfl) rfl
theorem KQ(e:Ed):EF Try.prog [] 36 [pP (ed e)] (.part (tP (JB e))):=by
 refine AF 28 Try.func36 rfl rfl rfl fun w D=>?_
 try refine A1 ?_
 refine BK 0 rfl (Imp.pref_ref _) ?_
 refine A0 (AC rfl rfl rfl rfl rfl .nil) ?_
 try refine A1 ?_
 refine A0 (A8 rfl rfl rfl rfl rfl (A4 rfl rfl rfl (AJ rfl (kn rfl)) (A4 rfl rfl rfl (AA rfl (kn rfl) off_32_4) (A4 rfl rfl rfl (AI rfl (kn rfl) one_4) .nil)))) ?_
 try refine A1 ?_
 refine AB rfl (fun h=>?_) (fun h=>?_)
 ·try refine A1 ?_
  refine DV DX (by kernel_rfl) (A8 rfl rfl rfl rfl rfl (A4 rfl rfl rfl (AJ rfl (kn rfl)) (A4 rfl rfl rfl (AA rfl (kn rfl) off_32_5) (A4 rfl rfl rfl (AI rfl (kn rfl) one_9) (A8 rfl rfl rfl rfl rfl (A4 rfl rfl rfl (AJ rfl (kn rfl)) (A4 rfl rfl rfl (AA rfl (kn rfl) off_32_6) (A4 rfl rfl rfl (AI rfl (kn rfl) one_9) (A4 rfl rfl rfl (A6 rfl (kn rfl) (kn rfl) (U9)) (AC rfl rfl rfl rfl rfl .nil)))))))))) ?_
  try refine A1 ?_
  exact A7 rfl rfl (.tmp (kn rfl) (.nil)) (AT (if_pos h).symm) rfl
 try refine A1 ?_
 refine A0 (A8 rfl rfl rfl rfl rfl (A4 rfl rfl rfl (AJ rfl (kn rfl)) (A4 rfl rfl rfl (AA rfl (kn rfl) off_32_5) (A4 rfl rfl rfl (AI rfl (kn rfl) one_9) (A4 rfl rfl rfl (A6 rfl (kn rfl) (kn rfl) (CS (b:=[]))) (A8 rfl rfl rfl rfl rfl (Walk.gd _ rfl rfl rfl (fun h=>AS rfl (kn rfl)) (Walk.gd _ rfl rfl rfl (fun h=>AJ rfl (A2 rfl h)) (Walk.gd _ rfl rfl rfl (fun h=>AA rfl (A2 rfl h) off_32_6) (Walk.gd _ rfl rfl rfl (fun h=>AI rfl (A2 rfl h) one_9) (Walk.gd _ rfl rfl rfl (fun h=>A6 rfl (A2 rfl h) (kn rfl) (CS (b:=[]))) (A4 rfl rfl rfl (AN rfl (kn rfl) (fun hb=>A2 rfl hb)) (AC rfl rfl rfl rfl rfl .nil))))))))))))) ?_
 try refine A1 ?_
 exact A7 rfl rfl (.tmp (kn rfl) (.nil)) (AT (if_neg (by rw[h];decide)).symm) rfl
theorem Q4{α:Type}(l:List α):decide ((0:Int)<(l.length:Int)) = !l.isEmpty:=by
 cases l with
 | nil=>rfl
 | cons x l=>exact decide_eq_true (by simp only[List.length_cons];omega)
set_option maxHeartbeats 1000000 in
theorem N4(e:Ed)(hs:e.Sm)(ih:∀ x∈e.kids,ERt x):ERt e:=by
 unfold ERt
 have hl:=hs.lens
 obtain⟨_,o1,o2,_,_,_,h3,h4⟩:=hs.ok.all
 have s1:=o1.short (by decide)
 have s2:=o2.short (by decide)
 have hk:∀ x∈e.kids,B6 x.old/\B6 x.new:=fun x hx=>by
  obtain⟨_,a,b,_⟩:=(hs.kid hx).ok.all
  exact⟨a.short (by decide),b.short (by decide)⟩
 have q:=D3 e
 refine AF 70 Try.func20 rfl rfl rfl fun w D=>?_
 try refine A1 ?_
 refine BK 0 rfl (Imp.pref_ref _) ?_
 refine A0 (AC rfl rfl rfl rfl rfl .nil) ?_
 try refine A1 ?_
 refine A0 (A8 rfl rfl rfl rfl rfl (A4 rfl rfl rfl (AH rfl (by kernel_rfl) (NK e s1 s2) ⟨C5 (kn rfl) (Imp.ref_pref _),trivial⟩) (A4 rfl rfl rfl (DL rfl (kn rfl)) .nil))) ?_
 try refine A1 ?_
 refine AB rfl (fun b=>?_) (fun b=>?_)
 ·rw[U0 b,Bool.false_and]at q
  try refine A1 ?_
  refine A0 (AC rfl rfl rfl rfl rfl .nil) ?_
  try refine A1 ?_
  exact A7 rfl rfl (.tmp (kn rfl) (.nil)) (AT q.symm) rfl
 rw[TZ b,Bool.true_and]at q
 try refine A1 ?_
 refine A0 (A8 rfl rfl rfl rfl rfl (A4 rfl rfl rfl (AJ rfl (kn rfl)) (A4 rfl rfl rfl (AA rfl (kn rfl) off_32_0) (A4 rfl rfl rfl (AI rfl (kn rfl) one_3) .nil)))) ?_
 try refine A1 ?_
 try refine A1 ?_
 refine A0 (A4 rfl rfl rfl (A6 rfl (kn rfl) (kn rfl) AL) (AC rfl rfl rfl rfl rfl .nil)) ?_
 try refine A1 ?_
 refine AB rfl (fun c=>?_) (fun c=>?_)
 ·rw[if_pos (of_decide_eq_true c)]at q
  try refine A1 ?_
  refine A0 (AC rfl rfl rfl rfl rfl .nil) ?_
  try refine A1 ?_
  exact A7 rfl rfl (.tmp (kn rfl) (.nil)) (AT q.symm) rfl
 rw[if_neg (of_decide_eq_false c)]at q
 try refine A1 ?_
 refine A0 (A4 rfl rfl rfl (A6 rfl (kn rfl) (kn rfl) AL) (AC rfl rfl rfl rfl rfl .nil)) ?_
 try refine A1 ?_
 refine AB rfl (fun c=>?_) (fun c=>?_)
 ·rw[if_pos (of_decide_eq_true c)]at q
  try refine A1 ?_
  refine A0 (A8 rfl rfl rfl rfl rfl (A4 rfl rfl rfl (AH rfl (by kernel_rfl) (MS e s1 s2) ⟨C5 (kn rfl) (Imp.ref_pref _),trivial⟩) (AC rfl rfl rfl rfl rfl .nil))) ?_
  try refine A1 ?_
  exact A7 rfl rfl (.tmp (kn rfl) (.nil)) (AT q.symm) rfl
 rw[if_neg (of_decide_eq_false c)]at q
 try refine A1 ?_
 refine A0 (A4 rfl rfl rfl (A6 rfl (kn rfl) (kn rfl) AL) (AC rfl rfl rfl rfl rfl .nil)) ?_
 try refine A1 ?_
 refine AB rfl (fun c=>?_) (fun c=>?_)
 ·rw[if_pos (of_decide_eq_true c),<- Q4]at q
  try refine A1 ?_
  refine A0 (A8 rfl rfl rfl rfl rfl (A4 rfl rfl rfl (AH rfl (by kernel_rfl) (KQ e) ⟨C5 (kn rfl) (Imp.ref_pref _),trivial⟩) (A8 rfl rfl rfl rfl rfl (Walk.gd _ rfl rfl rfl (fun h=>AS rfl (kn rfl)) (Walk.gd _ rfl rfl rfl (fun h=>AJ rfl (A2 rfl h)) (Walk.gd _ rfl rfl rfl (fun h=>AA rfl (A2 rfl h) off_32_4) (Walk.gd _ rfl rfl rfl (fun h=>AI rfl (A2 rfl h) one_4) (Walk.gd _ rfl rfl rfl (fun h=>AS rfl (A2 rfl h)) (Walk.gd _ rfl rfl rfl (fun h=>AS rfl (kn rfl)) (Walk.gd _ rfl rfl rfl (fun h=>AJ rfl (A2 rfl h)) (Walk.gd _ rfl rfl rfl (fun h=>AA rfl (A2 rfl h) off_32_3) (Walk.gd _ rfl rfl rfl (fun h=>AI rfl (A2 rfl h) one_28) (Walk.gd _ rfl rfl rfl (fun h=>AY rfl (A2 rfl h) sle_28) (Walk.gd _ rfl rfl rfl (fun h=>A6 rfl (A2 rfl h) (kn rfl) D9) (Walk.gd _ rfl rfl rfl (fun h=>ES rfl (A2 rfl h) (fun hb=>A2 rfl (gb h hb))) (A4 rfl rfl rfl (AN rfl (kn rfl) (fun hb=>A2 rfl hb)) (A8 rfl rfl rfl rfl rfl (Walk.gd _ rfl rfl rfl (fun h=>AS rfl (kn rfl)) (Walk.gd _ rfl rfl rfl (fun h=>AJ rfl (A2 rfl h)) (Walk.gd _ rfl rfl rfl (fun h=>AA rfl (A2 rfl h) off_32_3) (Walk.gd _ rfl rfl rfl (fun h=>AI rfl (A2 rfl h) one_28) (Walk.gd _ rfl rfl rfl (fun h=>AH rfl (by kernel_rfl) (QY 38 39 (by kernel_rfl) (by kernel_rfl) e.fields (by omega) H9 EL (fun x hx=>KR x (ih _ (Ed.kid_f hx))) (fun x _ y _=>KZ x y)) ⟨(A2 rfl h),⟨(kn rfl),⟨(kn rfl),trivial⟩⟩⟩) (A4 rfl rfl rfl (AN rfl (kn rfl) (fun hb=>A2 rfl hb)) (AC rfl rfl rfl rfl rfl .nil)))))))))))))))))))))))) ?_
  try refine A1 ?_
  exact A7 rfl rfl (.tmp (kn rfl) (.nil)) (AT q.symm) rfl
 rw[if_neg (of_decide_eq_false c)]at q
 try refine A1 ?_
 refine A0 (A4 rfl rfl rfl (A6 rfl (kn rfl) (kn rfl) AL) (AC rfl rfl rfl rfl rfl .nil)) ?_
 try refine A1 ?_
 refine AB rfl (fun c=>?_) (fun c=>?_)
 ·rw[if_pos (of_decide_eq_true c)]at q
  try refine A1 ?_
  refine A0 (A8 rfl rfl rfl rfl rfl (A4 rfl rfl rfl (AJ rfl (kn rfl)) (A4 rfl rfl rfl (AA rfl (kn rfl) off_32_7) (A4 rfl rfl rfl (AI rfl (kn rfl) one_29) (A4 rfl rfl rfl (AH rfl (by kernel_rfl) (U6 41 (by kernel_rfl) e.steps (by omega) IF (fun x _=>QS x)) ⟨(kn rfl),⟨(kn rfl),trivial⟩⟩) (A8 rfl rfl rfl rfl rfl (Walk.gd _ rfl rfl rfl (fun h=>AS rfl (kn rfl)) (Walk.gd _ rfl rfl rfl (fun h=>AJ rfl (A2 rfl h)) (Walk.gd _ rfl rfl rfl (fun h=>AA rfl (A2 rfl h) off_32_7) (Walk.gd _ rfl rfl rfl (fun h=>AI rfl (A2 rfl h) one_29) (Walk.gd _ rfl rfl rfl (fun h=>AH rfl (by kernel_rfl) (R8 43 44 (by kernel_rfl) (by kernel_rfl) e.steps (by omega) BS BX (fun x hx=>MR x ((h3 x hx).2.2.2.short (by decide)) (hk _ (Ed.kid_s hx)).1 (hk _ (Ed.kid_s hx)).2 (ih _ (Ed.kid_s hx))) (fun x _ y _=>M8 x y)) ⟨(A2 rfl h),⟨(kn rfl),⟨(kn rfl),trivial⟩⟩⟩) (A4 rfl rfl rfl (AN rfl (kn rfl) (fun hb=>A2 rfl hb)) (AC rfl rfl rfl rfl rfl .nil))))))))))))) ?_
  try refine A1 ?_
  exact A7 rfl rfl (.tmp (kn rfl) (.nil)) (AT q.symm) rfl
 rw[if_neg (of_decide_eq_false c)]at q
 try refine A1 ?_
 refine A0 (A4 rfl rfl rfl (A6 rfl (kn rfl) (kn rfl) AL) (AC rfl rfl rfl rfl rfl .nil)) ?_
 try refine A1 ?_
 refine AB rfl (fun c=>?_) (fun c=>?_)
 ·rw[if_pos (of_decide_eq_true c),<- Q4]at q
  try refine A1 ?_
  refine A0 (A8 rfl rfl rfl rfl rfl (A4 rfl rfl rfl (AJ rfl (kn rfl)) (A4 rfl rfl rfl (AA rfl (kn rfl) off_32_8) (A4 rfl rfl rfl (AI rfl (kn rfl) one_30) (A4 rfl rfl rfl (AY rfl (kn rfl) sle_30) (A4 rfl rfl rfl (A6 rfl (kn rfl) (kn rfl) D9) (A8 rfl rfl rfl rfl rfl (Walk.gd _ rfl rfl rfl (fun h=>AS rfl (kn rfl)) (Walk.gd _ rfl rfl rfl (fun h=>AJ rfl (A2 rfl h)) (Walk.gd _ rfl rfl rfl (fun h=>AA rfl (A2 rfl h) off_32_8) (Walk.gd _ rfl rfl rfl (fun h=>AI rfl (A2 rfl h) one_30) (Walk.gd _ rfl rfl rfl (fun h=>AH rfl (by kernel_rfl) (QQ 46 47 (by kernel_rfl) (by kernel_rfl) e.keys (by omega) OU IU (fun x hx=>NE x ((h4 x hx).short (by decide)) (ih _ (Ed.kid_k hx))) (fun x hx y hy=>O9 x y ((h4 x hx).short (by decide)) ((h4 y hy).short (by decide)))) ⟨(A2 rfl h),⟨(kn rfl),⟨(kn rfl),trivial⟩⟩⟩) (A4 rfl rfl rfl (AN rfl (kn rfl) (fun hb=>A2 rfl hb)) (AC rfl rfl rfl rfl rfl .nil)))))))))))))) ?_
  try refine A1 ?_
  exact A7 rfl rfl (.tmp (kn rfl) (.nil)) (AT q.symm) rfl
 rw[if_neg (of_decide_eq_false c)]at q
 try refine A1 ?_
 refine A0 (AC rfl rfl rfl rfl rfl .nil) ?_
 try refine A1 ?_
 exact A7 rfl rfl (.tmp (kn rfl) (.nil)) (AT q.symm) rfl
theorem UJ(e:Ed):e.Sm->ERt e:=Ed.kids_ind (P:=fun e=>e.Sm->ERt e) (fun e ih h=>N4 e h fun x hx=>ih x hx (h.kid hx)) e
theorem IA(e:Ed)(hs:e.Sm):EF Try.prog [] 8 [.many (ed e)] (.part (tP (AU e))):=by
 refine AF 4 Try.func8 rfl rfl rfl fun w D=>?_
 try refine A1 ?_
 refine AG ?_
 refine BV 1 rfl rfl rfl rfl (kn rfl) rfl rfl rfl rfl ?_
 refine BW ?_
 refine AD ?_
 try refine A1 ?_
 refine SP 1 1 rfl rfl rfl ?_
 refine BK 1 rfl ((Imp.ptr_ref _ _).trans (Imp.ref_pref _)) ?_
 refine A0 (A4 rfl rfl rfl (AH rfl (by kernel_rfl) (UJ e hs) ⟨(kn rfl),trivial⟩) (AC rfl rfl rfl rfl rfl .nil)) ?_
 try refine A1 ?_
 exact A7 rfl rfl (.tmp (kn rfl) (.nil)) (Imp.of_eq rfl) rfl
theorem Ed.Sm.short{e:Ed}(h:e.Sm):B6 e.old/\B6 e.new:=by
 obtain⟨_,a,b,_⟩:=h.ok.all
 exact⟨a.short (by decide),b.short (by decide)⟩
theorem S9{P:Program}{f:FuncId}{ps:List Part}{v:Value}{w:World}{vs:List Value}(h:EF P [] f ps (.is v))(hp:PsFit w (Old w) ps vs):Calls P f vs.toArray w fun e w'=>e=.returned v/\Below w.heap.size w w':=
 (h w (Old w) vs (fun g hg=>hg) (fun _ _ h=>by cases h) hp).mono fun e w' ⟨u,y,h1,h2,h3,h4⟩=>by
  subst h2
  refine⟨?_,h3⟩
  rw[h1,VR.is_eq (h4 (fun _=>0) (fun _=>undef))]
theorem NY(k:Int)(n:Nat)(h1 : -9223372036854775808<=k)(h2:k<9223372036854775808)(h3:n<18446744073709551616):VSm 80 (.mk k n [] [] [] [] []):=
 ⟨(LD k n h1 h2 h3).fine,(LD k n h1 h2 h3).tx,by rw[C1];simp[Vl.list,Vl.fields,Vl.pairs,lnodes,fnodes,pnodes]⟩
theorem OD(k:Int)(o n:Vl)(hk:I64 k)(ho:VSm 80 o)(hn:VSm 80 n):(Ed.mk k o n [] false [] [] [] []).Sm:=
 ⟨.mk _ hk ho hn (Nat.zero_le _) (Nat.zero_le _) (fun _ h=>by cases h) (fun _ h=>by cases h) (fun _ h=>by cases h) (fun _ h=>by cases h),by rw[CL];simp[Ed.fields,Ed.steps,Ed.keys]⟩
theorem OP(a b:Vl):AU (.mk 1 a b [] false [] [] [] [])=(vright a&&vright b && !GM a b):=by
 rw[D3]
 simp[DT,Ed.kind,Ed.old,Ed.new,Ed.fields,Ed.rests,Ed.ro,Ed.rn,Ed.steps,Ed.keys]
theorem PB(n:Nat):vright (UL n)=true:=by simp[UL,vright,fright,lright,pright,vplain,Vl.kind,Vl.num,Vl.text,Vl.fields,Vl.rest,Vl.list,Vl.pairs]
end Go.Proofs.Ytecfdcdkkgmkpaa
