/- Part 17. Conditions: as each theorem says. -/
import Derived.Test.YtojdpgeeajaojaaES16
import Derived.Test.YtojdpgeeajaojaaProg
set_option maxRecDepth 100000
namespace Go.Proofs.Ytojdpgeeajaojaa
open Go.RowKit
def ERt(e:Ed):Prop:=EF Try.prog [] 21 [pP (ed e)] (.part (tP (BK e)))
theorem E8(e:Ed)(hE:ERt e):EF Try.prog [] 70 [pP (ed e)] (.part (tP (!decide (e.kind=0)&&BK e))):=by
 refine AF 12 Try.func70 rfl rfl rfl fun w D=>?_
 try refine A2 ?_
 refine B2 0 rfl (Imp.pref_ref _) ?_
 refine A0 (AD rfl rfl rfl rfl rfl .nil) ?_
 try refine A2 ?_
 refine A0 (A8 rfl rfl rfl rfl rfl (A3 rfl rfl rfl (AA rfl (kn rfl)) (A3 rfl rfl rfl (A5 rfl (kn rfl) off_35_0) (A3 rfl rfl rfl (AC rfl (kn rfl) one_3) (A3 rfl rfl rfl (A9 rfl (kn rfl) (kn rfl) C8) (A8 rfl rfl rfl rfl rfl (Walk.gd _ rfl rfl rfl (fun h=>AH rfl (kn rfl)) (Walk.gd _ rfl rfl rfl (fun h=>AG rfl (by kernel_rfl) (hE) ⟨AW (A1 rfl h) (Imp.ref_pref _),trivial⟩) (A3 rfl rfl rfl (AJ rfl (kn rfl) (fun hb=>A1 rfl hb)) (AD rfl rfl rfl rfl rfl .nil)))))))))) ?_
 try refine A2 ?_
 exact A7 rfl rfl (.tmp (kn rfl) (.nil)) (AL rfl) rfl
theorem ID(p:Int×Ed)(hE:ERt p.2):EF Try.prog [] 36 [pP (efd p)] (.part (tP (LT p))):=by
 refine AF 21 Try.func36 rfl rfl rfl fun w D=>?_
 try refine A2 ?_
 refine B2 0 rfl (Imp.pref_ref _) ?_
 refine A0 (AD rfl rfl rfl rfl rfl .nil) ?_
 try refine A2 ?_
 refine A0 (A8 rfl rfl rfl rfl rfl (A3 rfl rfl rfl (AA rfl (kn rfl)) (A3 rfl rfl rfl (A5 rfl (kn rfl) off_65_0) (A3 rfl rfl rfl (AC rfl (kn rfl) one_3) (A3 rfl rfl rfl (A9 rfl (kn rfl) (kn rfl) D1) (A8 rfl rfl rfl rfl rfl (Walk.gd _ rfl rfl rfl (fun h=>AH rfl (kn rfl)) (Walk.gd _ rfl rfl rfl (fun h=>AA rfl (A1 rfl h)) (Walk.gd _ rfl rfl rfl (fun h=>A5 rfl (A1 rfl h) off_65_0) (Walk.gd _ rfl rfl rfl (fun h=>AC rfl (A1 rfl h) one_3) (Walk.gd _ rfl rfl rfl (fun h=>A9 rfl (A1 rfl h) (kn rfl) KC) (A3 rfl rfl rfl (AJ rfl (kn rfl) (fun hb=>A1 rfl hb)) (A8 rfl rfl rfl rfl rfl (Walk.gd _ rfl rfl rfl (fun h=>AH rfl (kn rfl)) (Walk.gd _ rfl rfl rfl (fun h=>AA rfl (A1 rfl h)) (Walk.gd _ rfl rfl rfl (fun h=>A5 rfl (A1 rfl h) off_65_1) (Walk.gd _ rfl rfl rfl (fun h=>AG rfl (by kernel_rfl) (E8 p.2 hE) ⟨AW (A1 rfl h) (Imp.ref_pref _),trivial⟩) (A3 rfl rfl rfl (AJ rfl (kn rfl) (fun hb=>A1 rfl hb)) (AD rfl rfl rfl rfl rfl .nil))))))))))))))))))) ?_
 try refine A2 ?_
 exact A7 rfl rfl (.tmp (kn rfl) (.nil)) (AL rfl) rfl
theorem I8(p q:Int×Ed):EF Try.prog [] 37 [pP (efd p),pP (efd q)] (.part (tP (EL p q))):=by
 refine AF 14 Try.func37 rfl rfl rfl fun w D=>?_
 try refine A2 ?_
 refine B2 0 rfl (Imp.pref_ref _) ?_
 refine B2 1 rfl (Imp.pref_ref _) ?_
 refine A0 (AD rfl rfl rfl rfl rfl .nil) ?_
 try refine A2 ?_
 refine BO C0 (by kernel_rfl) (A8 rfl rfl rfl rfl rfl (A3 rfl rfl rfl (AA rfl (kn rfl)) (A3 rfl rfl rfl (A5 rfl (kn rfl) off_65_0) (A3 rfl rfl rfl (AC rfl (kn rfl) one_3) (A8 rfl rfl rfl rfl rfl (A3 rfl rfl rfl (AA rfl (kn rfl)) (A3 rfl rfl rfl (A5 rfl (kn rfl) off_65_0) (A3 rfl rfl rfl (AC rfl (kn rfl) one_3) (A3 rfl rfl rfl (A9 rfl (kn rfl) (kn rfl) BE) (AD rfl rfl rfl rfl rfl .nil)))))))))) ?_
 try refine A2 ?_
 exact A7 rfl rfl (.tmp (kn rfl) (.nil)) (AL rfl) rfl
theorem MZ(p:(Int×Int×Vl)×Ed):EF Try.prog [] 39 [pP (esd p)] (.part (tP (H1 p))):=by
 refine AF 8 Try.func39 rfl rfl rfl fun w D=>?_
 try refine A2 ?_
 refine B2 0 rfl (Imp.pref_ref _) ?_
 refine A0 (AD rfl rfl rfl rfl rfl .nil) ?_
 try refine A2 ?_
 refine A0 (A8 rfl rfl rfl rfl rfl (A3 rfl rfl rfl (AA rfl (kn rfl)) (A3 rfl rfl rfl (A5 rfl (kn rfl) off_71_0) (A3 rfl rfl rfl (AC rfl (kn rfl) one_3) (A3 rfl rfl rfl (A9 rfl (kn rfl) (kn rfl) C8) (AD rfl rfl rfl rfl rfl .nil)))))) ?_
 try refine A2 ?_
 exact A7 rfl rfl (.tmp (kn rfl) (.nil)) (AL rfl) rfl
theorem JM(p q:(Int×Int×Vl)×Ed):EF Try.prog [] 42 [pP (esd p),pP (esd q)] (.part (tP (G3 p q))):=by
 refine AF 23 Try.func42 rfl rfl rfl fun w D=>?_
 try refine A2 ?_
 refine B2 0 rfl (Imp.pref_ref _) ?_
 refine B2 1 rfl (Imp.pref_ref _) ?_
 refine A0 (AD rfl rfl rfl rfl rfl .nil) ?_
 try refine A2 ?_
 refine A0 (A8 rfl rfl rfl rfl rfl (A3 rfl rfl rfl (AA rfl (kn rfl)) (A3 rfl rfl rfl (A5 rfl (kn rfl) off_71_0) (A3 rfl rfl rfl (AC rfl (kn rfl) one_3) .nil)))) ?_
 try refine A2 ?_
 try refine A2 ?_
 refine A0 (A3 rfl rfl rfl (A9 rfl (kn rfl) (kn rfl) AK) (AD rfl rfl rfl rfl rfl .nil)) ?_
 try refine A2 ?_
 refine AE rfl (fun h=>?_) (fun h=>?_)
 ·try refine A2 ?_
  refine A0 (A8 rfl rfl rfl rfl rfl (A3 rfl rfl rfl (AA rfl (kn rfl)) (A3 rfl rfl rfl (A5 rfl (kn rfl) off_71_0) (A3 rfl rfl rfl (AC rfl (kn rfl) one_3) (A3 rfl rfl rfl (A9 rfl (kn rfl) (kn rfl) C8) (AD rfl rfl rfl rfl rfl .nil)))))) ?_
  try refine A2 ?_
  exact A7 rfl rfl (.tmp (kn rfl) (.nil)) (AL (if_pos (of_decide_eq_true h)).symm) rfl
 try refine A2 ?_
 refine A0 (A3 rfl rfl rfl (A9 rfl (kn rfl) (kn rfl) AK) (AD rfl rfl rfl rfl rfl .nil)) ?_
 try refine A2 ?_
 refine AE rfl (fun h3=>?_) (fun h3=>?_)
 ·try refine A2 ?_
  refine A0 (A8 rfl rfl rfl rfl rfl (A3 rfl rfl rfl (AA rfl (kn rfl)) (A3 rfl rfl rfl (A5 rfl (kn rfl) off_71_0) (A3 rfl rfl rfl (AC rfl (kn rfl) one_3) (A3 rfl rfl rfl (A9 rfl (kn rfl) (kn rfl) C8) (AD rfl rfl rfl rfl rfl .nil)))))) ?_
  try refine A2 ?_
  exact A7 rfl rfl (.tmp (kn rfl) (.nil)) (AL ((if_neg (of_decide_eq_false h)).trans (if_pos (of_decide_eq_true h3))).symm) rfl
 try refine A2 ?_
 refine A0 (AD rfl rfl rfl rfl rfl .nil) ?_
 try refine A2 ?_
 exact A7 rfl rfl (.tmp (kn rfl) (.nil)) (AL ((if_neg (of_decide_eq_false h)).trans (if_neg (of_decide_eq_false h3))).symm) rfl
theorem HB(x:Ed):(decide (x.kind=0)&&BK x)=(decide (x.kind=0)&&DK x):=by
 by_cases h:x.kind=0
 ·rw[DD,if_pos h,Bool.and_true]
 ·rw[decide_eq_false h,Bool.false_and,Bool.false_and]
theorem MV(v:Vl):(decide (1<=v.kind)&&decide (v.kind<=3)&&vright v)=KP v:=by
 unfold KP
 congr 1
 rw[<- Bool.decide_and,<- Bool.decide_or,<- Bool.decide_or]
 exact decide_eq_decide.2 (by omega)
theorem HC:DK DB=true:=by
 unfold DK DB
 simp[Ed.kind,Ed.old,Ed.new,Ed.fields,Ed.rests,Ed.ro,Ed.rn,Ed.steps,Ed.keys,E5]
theorem LZ(s:(Int×Int×Vl)×Ed):KO s=(NZ s&&(if s.1.1=1 then decide (1<=s.1.2.1)&&decide (s.1.2.1<=1048576)else if s.1.1=2\/s.1.1=3 then KP s.1.2.2 else if s.1.1=4 then !decide (s.2.kind=0)&&BK s.2 else false)):=by
 unfold KO I3 NZ C5
 by_cases k1:s.1.1=1
 ·simp only[if_pos k1,HB]
  cases E0 s.1.2.2<;>cases DK s.2<;>simp
  cases decide (s.2.kind=0)<;>simp
 by_cases k2:s.1.1=2\/s.1.1=3
 ·simp only[if_neg k1,if_pos k2,HB,E5]
  cases KP s.1.2.2<;>cases DK s.2<;>simp
 by_cases k4:s.1.1=4
 ·simp only[if_neg k1,if_neg k2,if_pos k4,HC]
  simp[DB,Ed.kind,Bool.and_assoc]
 simp only[if_neg k1,if_neg k2,if_neg k4,Bool.and_false]
set_option maxHeartbeats 1000000 in
theorem JE(p:(Int×Int×Vl)×Ed)(h1:AU p.1.2.2)(h2:AU p.2.old)(h3:AU p.2.new)(hE:ERt p.2):EF Try.prog [] 41 [pP (esd p)] (.part (tP (KO p))):=by
 have q:=LZ p
 refine AF 54 Try.func41 rfl rfl rfl fun w D=>?_
 try refine A2 ?_
 refine B2 0 rfl (Imp.pref_ref _) ?_
 refine A0 (AD rfl rfl rfl rfl rfl .nil) ?_
 try refine A2 ?_
 refine A0 (A8 rfl rfl rfl rfl rfl (A3 rfl rfl rfl (AG rfl (by kernel_rfl) (OP p h1 h2 h3) ⟨AW (kn rfl) (Imp.ref_pref _),trivial⟩) (A3 rfl rfl rfl (C1 rfl (kn rfl)) .nil))) ?_
 try refine A2 ?_
 refine AE rfl (fun b=>?_) (fun b=>?_)
 ·rw[KQ b,Bool.false_and]at q
  try refine A2 ?_
  refine A0 (AD rfl rfl rfl rfl rfl .nil) ?_
  try refine A2 ?_
  exact A7 rfl rfl (.tmp (kn rfl) (.nil)) (AL q.symm) rfl
 rw[K4 b,Bool.true_and]at q
 try refine A2 ?_
 refine A0 (A8 rfl rfl rfl rfl rfl (A3 rfl rfl rfl (AA rfl (kn rfl)) (A3 rfl rfl rfl (A5 rfl (kn rfl) off_71_0) (A3 rfl rfl rfl (AC rfl (kn rfl) one_3) .nil)))) ?_
 try refine A2 ?_
 try refine A2 ?_
 refine A0 (A3 rfl rfl rfl (A9 rfl (kn rfl) (kn rfl) AK) (AD rfl rfl rfl rfl rfl .nil)) ?_
 try refine A2 ?_
 refine AE rfl (fun k1=>?_) (fun k1=>?_)
 ·rw[if_pos (of_decide_eq_true k1)]at q
  try refine A2 ?_
  refine A0 (A8 rfl rfl rfl rfl rfl (A3 rfl rfl rfl (AA rfl (kn rfl)) (A3 rfl rfl rfl (A5 rfl (kn rfl) off_71_1) (A3 rfl rfl rfl (AC rfl (kn rfl) one_3) (A3 rfl rfl rfl (A9 rfl (kn rfl) (kn rfl) D1) (A8 rfl rfl rfl rfl rfl (Walk.gd _ rfl rfl rfl (fun h=>AH rfl (kn rfl)) (Walk.gd _ rfl rfl rfl (fun h=>AA rfl (A1 rfl h)) (Walk.gd _ rfl rfl rfl (fun h=>A5 rfl (A1 rfl h) off_71_1) (Walk.gd _ rfl rfl rfl (fun h=>AC rfl (A1 rfl h) one_3) (Walk.gd _ rfl rfl rfl (fun h=>A9 rfl (A1 rfl h) (kn rfl) KC) (A3 rfl rfl rfl (AJ rfl (kn rfl) (fun hb=>A1 rfl hb)) (AD rfl rfl rfl rfl rfl .nil))))))))))))) ?_
  try refine A2 ?_
  exact A7 rfl rfl (.tmp (kn rfl) (.nil)) (AL q.symm) rfl
 rw[if_neg (of_decide_eq_false k1)]at q
 try refine A2 ?_
 refine A0 (A3 rfl rfl rfl (A9 rfl (kn rfl) (kn rfl) AK) (AD rfl rfl rfl rfl rfl .nil)) ?_
 try refine A2 ?_
 refine JL (ι:=Unit) (fun _=>[(0,.ref (esd p)),(9,.is (.int .i64 p.1.1)),(24,.is (.bool (decide (p.1.1=2\/p.1.1=3))))]) (fun _=>[]) (fun _=>[]) ?_ (fun _=>?_)
 ·refine AE rfl (fun s2=>?_) (fun s2=>?_)
  ·try refine A2 ?_
   refine CE () (fun K=>AP ⟨s_t,s_t,⟨_,rfl,Imp.of_eq (by rw[decide_eq_true (Or.inl (of_decide_eq_true s2)),s2])⟩,trivial⟩ trivial trivial)
  try refine A2 ?_
  refine A0 (A3 rfl rfl rfl (A9 rfl (kn rfl) (kn rfl) AK) (AD rfl rfl rfl rfl rfl .nil)) ?_
  try refine A2 ?_
  refine CE () (fun K=>AP ⟨s_t,s_t,⟨_,rfl,Imp.of_eq (by have:=of_decide_eq_false s2;simp[this])⟩,trivial⟩ trivial trivial)
 try refine A2 ?_
 refine AE rfl (fun k2=>?_) (fun k2=>?_)
 ·rw[if_pos (of_decide_eq_true k2)]at q
  try refine A2 ?_
  refine A0 (A8 rfl rfl rfl rfl rfl (A3 rfl rfl rfl (AA rfl (kn rfl)) (A3 rfl rfl rfl (A5 rfl (kn rfl) off_71_2) (A3 rfl rfl rfl (A5 rfl (kn rfl) off_27_0) (A3 rfl rfl rfl (AC rfl (kn rfl) one_3) (A3 rfl rfl rfl (A9 rfl (kn rfl) (kn rfl) D1) (A8 rfl rfl rfl rfl rfl (Walk.gd _ rfl rfl rfl (fun h=>AH rfl (kn rfl)) (Walk.gd _ rfl rfl rfl (fun h=>AA rfl (A1 rfl h)) (Walk.gd _ rfl rfl rfl (fun h=>A5 rfl (A1 rfl h) off_71_2) (Walk.gd _ rfl rfl rfl (fun h=>A5 rfl (A1 rfl h) off_27_0) (Walk.gd _ rfl rfl rfl (fun h=>AC rfl (A1 rfl h) one_3) (Walk.gd _ rfl rfl rfl (fun h=>A9 rfl (A1 rfl h) (kn rfl) KC) (A3 rfl rfl rfl (AJ rfl (kn rfl) (fun hb=>A1 rfl hb)) (A8 rfl rfl rfl rfl rfl (Walk.gd _ rfl rfl rfl (fun h=>AH rfl (kn rfl)) (Walk.gd _ rfl rfl rfl (fun h=>AA rfl (A1 rfl h)) (Walk.gd _ rfl rfl rfl (fun h=>A5 rfl (A1 rfl h) off_71_2) (Walk.gd _ rfl rfl rfl (fun h=>AQ (vd p.1.2.2) 7 rfl (A1 rfl h) agg_27 sz_27 rfl rfl) (Walk.gd _ rfl rfl rfl (fun h=>AG rfl (by kernel_rfl) (CC p.1.2.2 h1) ⟨(A1 rfl h),trivial⟩) (A3 rfl rfl rfl (AJ rfl (kn rfl) (fun hb=>A1 rfl hb)) (AD rfl rfl rfl rfl rfl .nil)))))))))))))))))))))) ?_
  try refine A2 ?_
  exact A7 rfl rfl (.tmp (kn rfl) (.nil)) (AL (by rw[q];exact MV _)) rfl
 rw[if_neg (of_decide_eq_false k2)]at q
 try refine A2 ?_
 refine A0 (A3 rfl rfl rfl (A9 rfl (kn rfl) (kn rfl) AK) (AD rfl rfl rfl rfl rfl .nil)) ?_
 try refine A2 ?_
 refine AE rfl (fun k4=>?_) (fun k4=>?_)
 ·rw[if_pos (of_decide_eq_true k4)]at q
  try refine A2 ?_
  refine A0 (A8 rfl rfl rfl rfl rfl (A3 rfl rfl rfl (AA rfl (kn rfl)) (A3 rfl rfl rfl (A5 rfl (kn rfl) off_71_3) (A3 rfl rfl rfl (AG rfl (by kernel_rfl) (E8 p.2 hE) ⟨AW (kn rfl) (Imp.ref_pref _),trivial⟩) (AD rfl rfl rfl rfl rfl .nil))))) ?_
  try refine A2 ?_
  exact A7 rfl rfl (.tmp (kn rfl) (.nil)) (AL q.symm) rfl
 rw[if_neg (of_decide_eq_false k4)]at q
 try refine A2 ?_
 refine A0 (AD rfl rfl rfl rfl rfl .nil) ?_
 try refine A2 ?_
 exact A7 rfl rfl (.tmp (kn rfl) (.nil)) (AL q.symm) rfl
theorem K0(p:Vl×Ed)(h1:AU p.1)(hE:ERt p.2):EF Try.prog [] 44 [pP (ekd p)] (.part (tP (PO p))):=by
 refine AF 30 Try.func44 rfl rfl rfl fun w D=>?_
 try refine A2 ?_
 refine B2 0 rfl (Imp.pref_ref _) ?_
 refine A0 (AD rfl rfl rfl rfl rfl .nil) ?_
 try refine A2 ?_
 refine A0 (A8 rfl rfl rfl rfl rfl (A3 rfl rfl rfl (AA rfl (kn rfl)) (A3 rfl rfl rfl (A5 rfl (kn rfl) off_78_0) (A3 rfl rfl rfl (A5 rfl (kn rfl) off_27_0) (A3 rfl rfl rfl (AC rfl (kn rfl) one_3) (A3 rfl rfl rfl (A9 rfl (kn rfl) (kn rfl) AK) (A8 rfl rfl rfl rfl rfl (Walk.gd _ rfl rfl rfl (fun h=>AH rfl (kn rfl)) (Walk.gd _ rfl rfl rfl (fun h=>AA rfl (A1 rfl h)) (Walk.gd _ rfl rfl rfl (fun h=>A5 rfl (A1 rfl h) off_78_0) (Walk.gd _ rfl rfl rfl (fun h=>A5 rfl (A1 rfl h) off_27_0) (Walk.gd _ rfl rfl rfl (fun h=>AC rfl (A1 rfl h) one_3) (Walk.gd _ rfl rfl rfl (fun h=>A9 rfl (A1 rfl h) (kn rfl) AK) (A3 rfl rfl rfl (GO rfl (kn rfl) (fun hb=>A1 rfl hb)) (A8 rfl rfl rfl rfl rfl (Walk.gd _ rfl rfl rfl (fun h=>AH rfl (kn rfl)) (Walk.gd _ rfl rfl rfl (fun h=>AA rfl (A1 rfl h)) (Walk.gd _ rfl rfl rfl (fun h=>A5 rfl (A1 rfl h) off_78_0) (Walk.gd _ rfl rfl rfl (fun h=>AQ (vd p.1) 7 rfl (A1 rfl h) agg_27 sz_27 rfl rfl) (Walk.gd _ rfl rfl rfl (fun h=>AG rfl (by kernel_rfl) (CC p.1 h1) ⟨(A1 rfl h),trivial⟩) (A3 rfl rfl rfl (AJ rfl (kn rfl) (fun hb=>A1 rfl hb)) (A8 rfl rfl rfl rfl rfl (Walk.gd _ rfl rfl rfl (fun h=>AH rfl (kn rfl)) (Walk.gd _ rfl rfl rfl (fun h=>AA rfl (A1 rfl h)) (Walk.gd _ rfl rfl rfl (fun h=>A5 rfl (A1 rfl h) off_78_1) (Walk.gd _ rfl rfl rfl (fun h=>AG rfl (by kernel_rfl) (E8 p.2 hE) ⟨AW (A1 rfl h) (Imp.ref_pref _),trivial⟩) (A3 rfl rfl rfl (AJ rfl (kn rfl) (fun hb=>A1 rfl hb)) (AD rfl rfl rfl rfl rfl .nil)))))))))))))))))))))))))))) ?_
 try refine A2 ?_
 exact A7 rfl rfl (.tmp (kn rfl) (.nil)) (AL rfl) rfl
theorem K1(p q:Vl×Ed)(h1:AU p.1)(h2:AU q.1):EF Try.prog [] 45 [pP (ekd p),pP (ekd q)] (.part (tP (IW p q))):=by
 refine AF 28 Try.func45 rfl rfl rfl fun w D=>?_
 try refine A2 ?_
 refine B2 0 rfl (Imp.pref_ref _) ?_
 refine B2 1 rfl (Imp.pref_ref _) ?_
 refine A0 (AD rfl rfl rfl rfl rfl .nil) ?_
 try refine A2 ?_
 refine BO C0 (by kernel_rfl) (A8 rfl rfl rfl rfl rfl (A3 rfl rfl rfl (AA rfl (kn rfl)) (A3 rfl rfl rfl (A5 rfl (kn rfl) off_78_0) (A3 rfl rfl rfl (A5 rfl (kn rfl) off_27_0) (A3 rfl rfl rfl (AC rfl (kn rfl) one_3) (A8 rfl rfl rfl rfl rfl (A3 rfl rfl rfl (AA rfl (kn rfl)) (A3 rfl rfl rfl (A5 rfl (kn rfl) off_78_0) (A3 rfl rfl rfl (A5 rfl (kn rfl) off_27_0) (A3 rfl rfl rfl (AC rfl (kn rfl) one_3) (A3 rfl rfl rfl (A9 rfl (kn rfl) (kn rfl) AK) (A8 rfl rfl rfl rfl rfl (Walk.gd _ rfl rfl rfl (fun h=>AH rfl (kn rfl)) (Walk.gd _ rfl rfl rfl (fun h=>AA rfl (A1 rfl h)) (Walk.gd _ rfl rfl rfl (fun h=>A5 rfl (A1 rfl h) off_78_0) (Walk.gd _ rfl rfl rfl (fun h=>AQ (vd p.1) 7 rfl (A1 rfl h) agg_27 sz_27 rfl rfl) (Walk.gd _ rfl rfl rfl (fun h=>AH rfl (kn rfl)) (Walk.gd _ rfl rfl rfl (fun h=>AA rfl (A1 rfl h)) (Walk.gd _ rfl rfl rfl (fun h=>A5 rfl (A1 rfl h) off_78_0) (Walk.gd _ rfl rfl rfl (fun h=>AQ (vd q.1) 7 rfl (A1 rfl h) agg_27 sz_27 rfl rfl) (Walk.gd _ rfl rfl rfl (fun h=>AG rfl (by kernel_rfl) (EC p.1 h1 q.1 h2) ⟨(A1 rfl h),⟨(A1 rfl h),trivial⟩⟩) (Walk.gd _ rfl rfl rfl (fun h=>A9 rfl (A1 rfl h) (kn rfl) BE) (A3 rfl rfl rfl (AJ rfl (kn rfl) (fun hb=>A1 rfl hb)) (AD rfl rfl rfl rfl rfl .nil)))))))))))))))))))))))) ?_
 try refine A2 ?_
 exact A7 rfl rfl (.tmp (kn rfl) (.nil)) (AL rfl) rfl
theorem JA(e:Ed)(h1:AU e.old)(h2:AU e.new):EF Try.prog [] 33 [pP (ed e)] (.part (tP (vright e.old&&vright e.new && !CA e.old e.new))):=by
 refine AF 27 Try.func33 rfl rfl rfl fun w D=>?_
 try refine A2 ?_
 refine B2 0 rfl (Imp.pref_ref _) ?_
 refine A0 (AD rfl rfl rfl rfl rfl .nil) ?_
 try refine A2 ?_
 refine BO C0 (by kernel_rfl) (A8 rfl rfl rfl rfl rfl (A3 rfl rfl rfl (AA rfl (kn rfl)) (A3 rfl rfl rfl (A5 rfl (kn rfl) off_35_1) (A3 rfl rfl rfl (AQ (vd e.old) 7 rfl (kn rfl) agg_27 sz_27 rfl rfl) (A3 rfl rfl rfl (AG rfl (by kernel_rfl) (CC e.old h1) ⟨(kn rfl),trivial⟩) (A8 rfl rfl rfl rfl rfl (Walk.gd _ rfl rfl rfl (fun h=>AH rfl (kn rfl)) (Walk.gd _ rfl rfl rfl (fun h=>AA rfl (A1 rfl h)) (Walk.gd _ rfl rfl rfl (fun h=>A5 rfl (A1 rfl h) off_35_2) (Walk.gd _ rfl rfl rfl (fun h=>AQ (vd e.new) 7 rfl (A1 rfl h) agg_27 sz_27 rfl rfl) (Walk.gd _ rfl rfl rfl (fun h=>AG rfl (by kernel_rfl) (CC e.new h2) ⟨(A1 rfl h),trivial⟩) (A3 rfl rfl rfl (AJ rfl (kn rfl) (fun hb=>A1 rfl hb)) (A8 rfl rfl rfl rfl rfl (Walk.gd _ rfl rfl rfl (fun h=>AH rfl (kn rfl)) (Walk.gd _ rfl rfl rfl (fun h=>AA rfl (A1 rfl h)) (Walk.gd _ rfl rfl rfl (fun h=>A5 rfl (A1 rfl h) off_35_1) (Walk.gd _ rfl rfl rfl (fun h=>AQ (vd e.old) 7 rfl (A1 rfl h) agg_27 sz_27 rfl rfl) (Walk.gd _ rfl rfl rfl (fun h=>AH rfl (kn rfl)) (Walk.gd _ rfl rfl rfl (fun h=>AA rfl (A1 rfl h)) (Walk.gd _ rfl rfl rfl (fun h=>A5 rfl (A1 rfl h) off_35_2) (Walk.gd _ rfl rfl rfl (fun h=>AQ (vd e.new) 7 rfl (A1 rfl h) agg_27 sz_27 rfl rfl) (Walk.gd _ rfl rfl rfl (fun h=>AG rfl (by kernel_rfl) (C6 e.old e.new h1 h2) ⟨(A1 rfl h),⟨(A1 rfl h),trivial⟩⟩) (Walk.gd _ rfl rfl rfl (fun h=>C1 rfl (A1 rfl h)) (A3 rfl rfl rfl (AJ rfl (kn rfl) (fun hb=>A1 rfl hb)) (AD rfl rfl rfl rfl rfl .nil))))))))))))))))))))))))) ?_
 try refine A2 ?_
 exact A7 rfl rfl (.tmp (kn rfl) (.nil)) (AL rfl) rfl
theorem I9(e:Ed):EF Try.prog [] 34 [pP (ed e)] (.part (tP (J6 e))):=by
 refine AF 28 Try.func34 rfl rfl rfl fun w D=>?_
 try refine A2 ?_
 refine B2 0 rfl (Imp.pref_ref _) ?_
 refine A0 (AD rfl rfl rfl rfl rfl .nil) ?_
 try refine A2 ?_
 refine A0 (A8 rfl rfl rfl rfl rfl (A3 rfl rfl rfl (AA rfl (kn rfl)) (A3 rfl rfl rfl (A5 rfl (kn rfl) off_35_4) (A3 rfl rfl rfl (AC rfl (kn rfl) one_4) .nil)))) ?_
 try refine A2 ?_
 refine AE rfl (fun h=>?_) (fun h=>?_)
 ·try refine A2 ?_
  refine BO C0 (by kernel_rfl) (A8 rfl rfl rfl rfl rfl (A3 rfl rfl rfl (AA rfl (kn rfl)) (A3 rfl rfl rfl (A5 rfl (kn rfl) off_35_5) (A3 rfl rfl rfl (AC rfl (kn rfl) one_9) (A8 rfl rfl rfl rfl rfl (A3 rfl rfl rfl (AA rfl (kn rfl)) (A3 rfl rfl rfl (A5 rfl (kn rfl) off_35_6) (A3 rfl rfl rfl (AC rfl (kn rfl) one_9) (A3 rfl rfl rfl (A9 rfl (kn rfl) (kn rfl) (PI)) (AD rfl rfl rfl rfl rfl .nil)))))))))) ?_
  try refine A2 ?_
  exact A7 rfl rfl (.tmp (kn rfl) (.nil)) (AL (if_pos h).symm) rfl
 try refine A2 ?_
 refine A0 (A8 rfl rfl rfl rfl rfl (A3 rfl rfl rfl (AA rfl (kn rfl)) (A3 rfl rfl rfl (A5 rfl (kn rfl) off_35_5) (A3 rfl rfl rfl (AC rfl (kn rfl) one_9) (A3 rfl rfl rfl (A9 rfl (kn rfl) (kn rfl) (BW (b:=[]))) (A8 rfl rfl rfl rfl rfl (Walk.gd _ rfl rfl rfl (fun h=>AH rfl (kn rfl)) (Walk.gd _ rfl rfl rfl (fun h=>AA rfl (A1 rfl h)) (Walk.gd _ rfl rfl rfl (fun h=>A5 rfl (A1 rfl h) off_35_6) (Walk.gd _ rfl rfl rfl (fun h=>AC rfl (A1 rfl h) one_9) (Walk.gd _ rfl rfl rfl (fun h=>A9 rfl (A1 rfl h) (kn rfl) (BW (b:=[]))) (A3 rfl rfl rfl (AJ rfl (kn rfl) (fun hb=>A1 rfl hb)) (AD rfl rfl rfl rfl rfl .nil))))))))))))) ?_
 try refine A2 ?_
 exact A7 rfl rfl (.tmp (kn rfl) (.nil)) (AL (if_neg (by rw[h];decide)).symm) rfl
theorem MK{α:Type}(l:List α):decide ((0:Int)<(l.length:Int)) = !l.isEmpty:=by
 cases l with
 | nil=>rfl
 | cons x l=>exact decide_eq_true (by simp only[List.length_cons];omega)
set_option maxHeartbeats 1000000 in
theorem KK(e:Ed)(hs:e.Sm)(ih:∀ x∈e.kids,ERt x):ERt e:=by
 unfold ERt
 have hl:=hs.lens
 obtain⟨_,o1,o2,_,_,_,h3,h4⟩:=hs.ok.all
 have s1:=o1.short (by decide)
 have s2:=o2.short (by decide)
 have hk:∀ x∈e.kids,AU x.old/\AU x.new:=fun x hx=>by
  obtain⟨_,a,b,_⟩:=(hs.kid hx).ok.all
  exact⟨a.short (by decide),b.short (by decide)⟩
 have q:=DD e
 refine AF 70 Try.func21 rfl rfl rfl fun w D=>?_
 try refine A2 ?_
 refine B2 0 rfl (Imp.pref_ref _) ?_
 refine A0 (AD rfl rfl rfl rfl rfl .nil) ?_
 try refine A2 ?_
 refine A0 (A8 rfl rfl rfl rfl rfl (A3 rfl rfl rfl (AG rfl (by kernel_rfl) (K5 e s1 s2) ⟨AW (kn rfl) (Imp.ref_pref _),trivial⟩) (A3 rfl rfl rfl (C1 rfl (kn rfl)) .nil))) ?_
 try refine A2 ?_
 refine AE rfl (fun b=>?_) (fun b=>?_)
 ·rw[KQ b,Bool.false_and]at q
  try refine A2 ?_
  refine A0 (AD rfl rfl rfl rfl rfl .nil) ?_
  try refine A2 ?_
  exact A7 rfl rfl (.tmp (kn rfl) (.nil)) (AL q.symm) rfl
 rw[K4 b,Bool.true_and]at q
 try refine A2 ?_
 refine A0 (A8 rfl rfl rfl rfl rfl (A3 rfl rfl rfl (AA rfl (kn rfl)) (A3 rfl rfl rfl (A5 rfl (kn rfl) off_35_0) (A3 rfl rfl rfl (AC rfl (kn rfl) one_3) .nil)))) ?_
 try refine A2 ?_
 try refine A2 ?_
 refine A0 (A3 rfl rfl rfl (A9 rfl (kn rfl) (kn rfl) AK) (AD rfl rfl rfl rfl rfl .nil)) ?_
 try refine A2 ?_
 refine AE rfl (fun c=>?_) (fun c=>?_)
 ·rw[if_pos (of_decide_eq_true c)]at q
  try refine A2 ?_
  refine A0 (AD rfl rfl rfl rfl rfl .nil) ?_
  try refine A2 ?_
  exact A7 rfl rfl (.tmp (kn rfl) (.nil)) (AL q.symm) rfl
 rw[if_neg (of_decide_eq_false c)]at q
 try refine A2 ?_
 refine A0 (A3 rfl rfl rfl (A9 rfl (kn rfl) (kn rfl) AK) (AD rfl rfl rfl rfl rfl .nil)) ?_
 try refine A2 ?_
 refine AE rfl (fun c=>?_) (fun c=>?_)
 ·rw[if_pos (of_decide_eq_true c)]at q
  try refine A2 ?_
  refine A0 (A8 rfl rfl rfl rfl rfl (A3 rfl rfl rfl (AG rfl (by kernel_rfl) (JA e s1 s2) ⟨AW (kn rfl) (Imp.ref_pref _),trivial⟩) (AD rfl rfl rfl rfl rfl .nil))) ?_
  try refine A2 ?_
  exact A7 rfl rfl (.tmp (kn rfl) (.nil)) (AL q.symm) rfl
 rw[if_neg (of_decide_eq_false c)]at q
 try refine A2 ?_
 refine A0 (A3 rfl rfl rfl (A9 rfl (kn rfl) (kn rfl) AK) (AD rfl rfl rfl rfl rfl .nil)) ?_
 try refine A2 ?_
 refine AE rfl (fun c=>?_) (fun c=>?_)
 ·rw[if_pos (of_decide_eq_true c),<- MK]at q
  try refine A2 ?_
  refine A0 (A8 rfl rfl rfl rfl rfl (A3 rfl rfl rfl (AG rfl (by kernel_rfl) (I9 e) ⟨AW (kn rfl) (Imp.ref_pref _),trivial⟩) (A8 rfl rfl rfl rfl rfl (Walk.gd _ rfl rfl rfl (fun h=>AH rfl (kn rfl)) (Walk.gd _ rfl rfl rfl (fun h=>AA rfl (A1 rfl h)) (Walk.gd _ rfl rfl rfl (fun h=>A5 rfl (A1 rfl h) off_35_4) (Walk.gd _ rfl rfl rfl (fun h=>AC rfl (A1 rfl h) one_4) (Walk.gd _ rfl rfl rfl (fun h=>AH rfl (A1 rfl h)) (Walk.gd _ rfl rfl rfl (fun h=>AH rfl (kn rfl)) (Walk.gd _ rfl rfl rfl (fun h=>AA rfl (A1 rfl h)) (Walk.gd _ rfl rfl rfl (fun h=>A5 rfl (A1 rfl h) off_35_3) (Walk.gd _ rfl rfl rfl (fun h=>AC rfl (A1 rfl h) one_31) (Walk.gd _ rfl rfl rfl (fun h=>AS rfl (A1 rfl h) sle_31) (Walk.gd _ rfl rfl rfl (fun h=>A9 rfl (A1 rfl h) (kn rfl) DG) (Walk.gd _ rfl rfl rfl (fun h=>GO rfl (A1 rfl h) (fun hb=>A1 rfl (gb h hb))) (A3 rfl rfl rfl (AJ rfl (kn rfl) (fun hb=>A1 rfl hb)) (A8 rfl rfl rfl rfl rfl (Walk.gd _ rfl rfl rfl (fun h=>AH rfl (kn rfl)) (Walk.gd _ rfl rfl rfl (fun h=>AA rfl (A1 rfl h)) (Walk.gd _ rfl rfl rfl (fun h=>A5 rfl (A1 rfl h) off_35_3) (Walk.gd _ rfl rfl rfl (fun h=>AC rfl (A1 rfl h) one_31) (Walk.gd _ rfl rfl rfl (fun h=>AG rfl (by kernel_rfl) (MN 36 37 (by kernel_rfl) (by kernel_rfl) e.fields (by omega) LT EL (fun x hx=>ID x (ih _ (Ed.kid_f hx))) (fun x _ y _=>I8 x y)) ⟨(A1 rfl h),⟨(kn rfl),⟨(kn rfl),trivial⟩⟩⟩) (A3 rfl rfl rfl (AJ rfl (kn rfl) (fun hb=>A1 rfl hb)) (AD rfl rfl rfl rfl rfl .nil)))))))))))))))))))))))) ?_
  try refine A2 ?_
  exact A7 rfl rfl (.tmp (kn rfl) (.nil)) (AL q.symm) rfl
 rw[if_neg (of_decide_eq_false c)]at q
 try refine A2 ?_
 refine A0 (A3 rfl rfl rfl (A9 rfl (kn rfl) (kn rfl) AK) (AD rfl rfl rfl rfl rfl .nil)) ?_
 try refine A2 ?_
 refine AE rfl (fun c=>?_) (fun c=>?_)
 ·rw[if_pos (of_decide_eq_true c)]at q
  try refine A2 ?_
  refine A0 (A8 rfl rfl rfl rfl rfl (A3 rfl rfl rfl (AA rfl (kn rfl)) (A3 rfl rfl rfl (A5 rfl (kn rfl) off_35_7) (A3 rfl rfl rfl (AC rfl (kn rfl) one_32) (A3 rfl rfl rfl (AG rfl (by kernel_rfl) (PP 39 (by kernel_rfl) e.steps (by omega) H1 (fun x _=>MZ x)) ⟨(kn rfl),⟨(kn rfl),trivial⟩⟩) (A8 rfl rfl rfl rfl rfl (Walk.gd _ rfl rfl rfl (fun h=>AH rfl (kn rfl)) (Walk.gd _ rfl rfl rfl (fun h=>AA rfl (A1 rfl h)) (Walk.gd _ rfl rfl rfl (fun h=>A5 rfl (A1 rfl h) off_35_7) (Walk.gd _ rfl rfl rfl (fun h=>AC rfl (A1 rfl h) one_32) (Walk.gd _ rfl rfl rfl (fun h=>AG rfl (by kernel_rfl) (MT 41 42 (by kernel_rfl) (by kernel_rfl) e.steps (by omega) KO G3 (fun x hx=>JE x ((h3 x hx).2.2.2.short (by decide)) (hk _ (Ed.kid_s hx)).1 (hk _ (Ed.kid_s hx)).2 (ih _ (Ed.kid_s hx))) (fun x _ y _=>JM x y)) ⟨(A1 rfl h),⟨(kn rfl),⟨(kn rfl),trivial⟩⟩⟩) (A3 rfl rfl rfl (AJ rfl (kn rfl) (fun hb=>A1 rfl hb)) (AD rfl rfl rfl rfl rfl .nil))))))))))))) ?_
  try refine A2 ?_
  exact A7 rfl rfl (.tmp (kn rfl) (.nil)) (AL q.symm) rfl
 rw[if_neg (of_decide_eq_false c)]at q
 try refine A2 ?_
 refine A0 (A3 rfl rfl rfl (A9 rfl (kn rfl) (kn rfl) AK) (AD rfl rfl rfl rfl rfl .nil)) ?_
 try refine A2 ?_
 refine AE rfl (fun c=>?_) (fun c=>?_)
 ·rw[if_pos (of_decide_eq_true c),<- MK]at q
  try refine A2 ?_
  refine A0 (A8 rfl rfl rfl rfl rfl (A3 rfl rfl rfl (AA rfl (kn rfl)) (A3 rfl rfl rfl (A5 rfl (kn rfl) off_35_8) (A3 rfl rfl rfl (AC rfl (kn rfl) one_33) (A3 rfl rfl rfl (AS rfl (kn rfl) sle_33) (A3 rfl rfl rfl (A9 rfl (kn rfl) (kn rfl) DG) (A8 rfl rfl rfl rfl rfl (Walk.gd _ rfl rfl rfl (fun h=>AH rfl (kn rfl)) (Walk.gd _ rfl rfl rfl (fun h=>AA rfl (A1 rfl h)) (Walk.gd _ rfl rfl rfl (fun h=>A5 rfl (A1 rfl h) off_35_8) (Walk.gd _ rfl rfl rfl (fun h=>AC rfl (A1 rfl h) one_33) (Walk.gd _ rfl rfl rfl (fun h=>AG rfl (by kernel_rfl) (NC 44 45 (by kernel_rfl) (by kernel_rfl) e.keys (by omega) PO IW (fun x hx=>K0 x ((h4 x hx).short (by decide)) (ih _ (Ed.kid_k hx))) (fun x hx y hy=>K1 x y ((h4 x hx).short (by decide)) ((h4 y hy).short (by decide)))) ⟨(A1 rfl h),⟨(kn rfl),⟨(kn rfl),trivial⟩⟩⟩) (A3 rfl rfl rfl (AJ rfl (kn rfl) (fun hb=>A1 rfl hb)) (AD rfl rfl rfl rfl rfl .nil)))))))))))))) ?_
  try refine A2 ?_
  exact A7 rfl rfl (.tmp (kn rfl) (.nil)) (AL q.symm) rfl
 rw[if_neg (of_decide_eq_false c)]at q
 try refine A2 ?_
 refine A0 (AD rfl rfl rfl rfl rfl .nil) ?_
 try refine A2 ?_
 exact A7 rfl rfl (.tmp (kn rfl) (.nil)) (AL q.symm) rfl
theorem PX(e:Ed):e.Sm->ERt e:=Ed.kids_ind (P:=fun e=>e.Sm->ERt e) (fun e ih h=>KK e h fun x hx=>ih x hx (h.kid hx)) e
theorem FT(e:Ed)(hs:e.Sm):EF Try.prog [] 8 [.many (ed e)] (.part (tP (BK e))):=by
 refine AF 4 Try.func8 rfl rfl rfl fun w D=>?_
 try refine A2 ?_
 refine AI ?_
 refine BB 1 rfl rfl rfl rfl (kn rfl) rfl rfl rfl rfl ?_
 refine CM ?_
 refine AN ?_
 try refine A2 ?_
 refine HA 1 1 rfl rfl rfl ?_
 refine B2 1 rfl ((Imp.ptr_ref _ _).trans (Imp.ref_pref _)) ?_
 refine A0 (A3 rfl rfl rfl (AG rfl (by kernel_rfl) (PX e hs) ⟨(kn rfl),trivial⟩) (AD rfl rfl rfl rfl rfl .nil)) ?_
 try refine A2 ?_
 exact A7 rfl rfl (.tmp (kn rfl) (.nil)) (Imp.of_eq rfl) rfl
end Go.Proofs.Ytojdpgeeajaojaa
