/- Part 27. Conditions: as each theorem says. -/
import Derived.Test.YtojdpgeeajaojaaGreatET26
import Derived.Test.YtojdpgeeajaojaaGreatProg
set_option maxRecDepth 100000
namespace Go.Proofs.YtojdpgeeajaojaaGreat
open Go.RowKit
def ERt(e:Ed):Prop:=EF Tryz.prog [] 19 [pP (ed e)] (.part (tP (BU e)))
theorem G8(e:Ed)(hE:ERt e):EF Tryz.prog [] 74 [pP (ed e)] (.part (tP (!decide (e.kind=0)&&BU e))):=by
 refine AG 12 Tryz.func74 rfl rfl rfl fun w D=>?_
 try refine A3 ?_
 refine BB 0 rfl (Imp.pref_ref _) ?_
 refine A2 (AC rfl rfl rfl rfl rfl .nil) ?_
 try refine A3 ?_
 refine A2 (A9 rfl rfl rfl rfl rfl (A4 rfl rfl rfl (AE rfl (kn rfl)) (A4 rfl rfl rfl (AA rfl (kn rfl) off_32_0) (A4 rfl rfl rfl (AF rfl (kn rfl) one_3) (A4 rfl rfl rfl (A6 rfl (kn rfl) (kn rfl) BI) (A9 rfl rfl rfl rfl rfl (Walk.gd _ rfl rfl rfl (fun h=>AN rfl (kn rfl)) (Walk.gd _ rfl rfl rfl (fun h=>AD rfl (by kernel_rfl) (hE) ⟨B7 (A0 rfl h) (Imp.ref_pref _),trivial⟩) (A4 rfl rfl rfl (AO rfl (kn rfl) (fun hb=>A0 rfl hb)) (AC rfl rfl rfl rfl rfl .nil)))))))))) ?_
 try refine A3 ?_
 exact A8 rfl rfl (.tmp (kn rfl) (.nil)) (AZ rfl) rfl
theorem L3(p:Int×Ed)(hE:ERt p.2):EF Tryz.prog [] 36 [pP (efd p)] (.part (tP (JV p))):=by
 refine AG 21 Tryz.func36 rfl rfl rfl fun w D=>?_
 try refine A3 ?_
 refine BB 0 rfl (Imp.pref_ref _) ?_
 refine A2 (AC rfl rfl rfl rfl rfl .nil) ?_
 try refine A3 ?_
 refine A2 (A9 rfl rfl rfl rfl rfl (A4 rfl rfl rfl (AE rfl (kn rfl)) (A4 rfl rfl rfl (AA rfl (kn rfl) off_57_0) (A4 rfl rfl rfl (AF rfl (kn rfl) one_3) (A4 rfl rfl rfl (A6 rfl (kn rfl) (kn rfl) CM) (A9 rfl rfl rfl rfl rfl (Walk.gd _ rfl rfl rfl (fun h=>AN rfl (kn rfl)) (Walk.gd _ rfl rfl rfl (fun h=>AE rfl (A0 rfl h)) (Walk.gd _ rfl rfl rfl (fun h=>AA rfl (A0 rfl h) off_57_0) (Walk.gd _ rfl rfl rfl (fun h=>AF rfl (A0 rfl h) one_3) (Walk.gd _ rfl rfl rfl (fun h=>A6 rfl (A0 rfl h) (kn rfl) L9) (A4 rfl rfl rfl (AO rfl (kn rfl) (fun hb=>A0 rfl hb)) (A9 rfl rfl rfl rfl rfl (Walk.gd _ rfl rfl rfl (fun h=>AN rfl (kn rfl)) (Walk.gd _ rfl rfl rfl (fun h=>AE rfl (A0 rfl h)) (Walk.gd _ rfl rfl rfl (fun h=>AA rfl (A0 rfl h) off_57_1) (Walk.gd _ rfl rfl rfl (fun h=>AD rfl (by kernel_rfl) (G8 p.2 hE) ⟨B7 (A0 rfl h) (Imp.ref_pref _),trivial⟩) (A4 rfl rfl rfl (AO rfl (kn rfl) (fun hb=>A0 rfl hb)) (AC rfl rfl rfl rfl rfl .nil))))))))))))))))))) ?_
 try refine A3 ?_
 exact A8 rfl rfl (.tmp (kn rfl) (.nil)) (AZ rfl) rfl
theorem KX(p q:Int×Ed):EF Tryz.prog [] 37 [pP (efd p),pP (efd q)] (.part (tP (EH p q))):=by
 refine AG 14 Tryz.func37 rfl rfl rfl fun w D=>?_
 try refine A3 ?_
 refine BB 0 rfl (Imp.pref_ref _) ?_
 refine BB 1 rfl (Imp.pref_ref _) ?_
 refine A2 (AC rfl rfl rfl rfl rfl .nil) ?_
 try refine A3 ?_
 refine BD BF (by kernel_rfl) (A9 rfl rfl rfl rfl rfl (A4 rfl rfl rfl (AE rfl (kn rfl)) (A4 rfl rfl rfl (AA rfl (kn rfl) off_57_0) (A4 rfl rfl rfl (AF rfl (kn rfl) one_3) (A9 rfl rfl rfl rfl rfl (A4 rfl rfl rfl (AE rfl (kn rfl)) (A4 rfl rfl rfl (AA rfl (kn rfl) off_57_0) (A4 rfl rfl rfl (AF rfl (kn rfl) one_3) (A4 rfl rfl rfl (A6 rfl (kn rfl) (kn rfl) AY) (AC rfl rfl rfl rfl rfl .nil)))))))))) ?_
 try refine A3 ?_
 exact A8 rfl rfl (.tmp (kn rfl) (.nil)) (AZ rfl) rfl
theorem Q8(p:(Int×Int×Vl)×Ed):EF Tryz.prog [] 39 [pP (esd p)] (.part (tP (DG p))):=by
 refine AG 8 Tryz.func39 rfl rfl rfl fun w D=>?_
 try refine A3 ?_
 refine BB 0 rfl (Imp.pref_ref _) ?_
 refine A2 (AC rfl rfl rfl rfl rfl .nil) ?_
 try refine A3 ?_
 refine A2 (A9 rfl rfl rfl rfl rfl (A4 rfl rfl rfl (AE rfl (kn rfl)) (A4 rfl rfl rfl (AA rfl (kn rfl) off_77_0) (A4 rfl rfl rfl (AF rfl (kn rfl) one_3) (A4 rfl rfl rfl (A6 rfl (kn rfl) (kn rfl) BI) (AC rfl rfl rfl rfl rfl .nil)))))) ?_
 try refine A3 ?_
 exact A8 rfl rfl (.tmp (kn rfl) (.nil)) (AZ rfl) rfl
theorem MI(p q:(Int×Int×Vl)×Ed):EF Tryz.prog [] 42 [pP (esd p),pP (esd q)] (.part (tP (EM p q))):=by
 refine AG 23 Tryz.func42 rfl rfl rfl fun w D=>?_
 try refine A3 ?_
 refine BB 0 rfl (Imp.pref_ref _) ?_
 refine BB 1 rfl (Imp.pref_ref _) ?_
 refine A2 (AC rfl rfl rfl rfl rfl .nil) ?_
 try refine A3 ?_
 refine A2 (A9 rfl rfl rfl rfl rfl (A4 rfl rfl rfl (AE rfl (kn rfl)) (A4 rfl rfl rfl (AA rfl (kn rfl) off_77_0) (A4 rfl rfl rfl (AF rfl (kn rfl) one_3) .nil)))) ?_
 try refine A3 ?_
 try refine A3 ?_
 refine A2 (A4 rfl rfl rfl (A6 rfl (kn rfl) (kn rfl) AP) (AC rfl rfl rfl rfl rfl .nil)) ?_
 try refine A3 ?_
 refine AB rfl (fun h=>?_) (fun h=>?_)
 ·try refine A3 ?_
  refine A2 (A9 rfl rfl rfl rfl rfl (A4 rfl rfl rfl (AE rfl (kn rfl)) (A4 rfl rfl rfl (AA rfl (kn rfl) off_77_0) (A4 rfl rfl rfl (AF rfl (kn rfl) one_3) (A4 rfl rfl rfl (A6 rfl (kn rfl) (kn rfl) BI) (AC rfl rfl rfl rfl rfl .nil)))))) ?_
  try refine A3 ?_
  exact A8 rfl rfl (.tmp (kn rfl) (.nil)) (AZ (if_pos (of_decide_eq_true h)).symm) rfl
 try refine A3 ?_
 refine A2 (A4 rfl rfl rfl (A6 rfl (kn rfl) (kn rfl) AP) (AC rfl rfl rfl rfl rfl .nil)) ?_
 try refine A3 ?_
 refine AB rfl (fun h3=>?_) (fun h3=>?_)
 ·try refine A3 ?_
  refine A2 (A9 rfl rfl rfl rfl rfl (A4 rfl rfl rfl (AE rfl (kn rfl)) (A4 rfl rfl rfl (AA rfl (kn rfl) off_77_0) (A4 rfl rfl rfl (AF rfl (kn rfl) one_3) (A4 rfl rfl rfl (A6 rfl (kn rfl) (kn rfl) BI) (AC rfl rfl rfl rfl rfl .nil)))))) ?_
  try refine A3 ?_
  exact A8 rfl rfl (.tmp (kn rfl) (.nil)) (AZ ((if_neg (of_decide_eq_false h)).trans (if_pos (of_decide_eq_true h3))).symm) rfl
 try refine A3 ?_
 refine A2 (AC rfl rfl rfl rfl rfl .nil) ?_
 try refine A3 ?_
 exact A8 rfl rfl (.tmp (kn rfl) (.nil)) (AZ ((if_neg (of_decide_eq_false h)).trans (if_neg (of_decide_eq_false h3))).symm) rfl
theorem JJ(x:Ed):(decide (x.kind=0)&&BU x)=(decide (x.kind=0)&&DF x):=by
 by_cases h:x.kind=0
 ·rw[F6,if_pos h,Bool.and_true]
 ·rw[decide_eq_false h,Bool.false_and,Bool.false_and]
theorem QM(v:Vl):(decide (1<=v.kind)&&decide (v.kind<=3)&&vright v)=L8 v:=by
 unfold L8
 congr 1
 rw[<- Bool.decide_and,<- Bool.decide_or,<- Bool.decide_or]
 exact decide_eq_decide.2 (by omega)
theorem OV:DF K8=true:=by
 unfold DF K8
 simp[Ed.kind,Ed.old,Ed.new,Ed.fields,Ed.rests,Ed.ro,Ed.rn,Ed.steps,Ed.keys,G7]
theorem OD(s:(Int×Int×Vl)×Ed):IM s=(RC s&&(if s.1.1=1 then decide (1<=s.1.2.1)&&decide (s.1.2.1<=1048576)else if s.1.1=2\/s.1.1=3 then L8 s.1.2.2 else if s.1.1=4 then !decide (s.2.kind=0)&&BU s.2 else false)):=by
 unfold IM FD RC D7
 by_cases k1:s.1.1=1
 ·simp only[if_pos k1,JJ]
  cases DE s.1.2.2<;>cases DF s.2<;>simp
  cases decide (s.2.kind=0)<;>simp
 by_cases k2:s.1.1=2\/s.1.1=3
 ·simp only[if_neg k1,if_pos k2,JJ,G7]
  cases L8 s.1.2.2<;>cases DF s.2<;>simp
 by_cases k4:s.1.1=4
 ·simp only[if_neg k1,if_neg k2,if_pos k4,OV]
  simp[K8,Ed.kind,Bool.and_assoc]
 simp only[if_neg k1,if_neg k2,if_neg k4,Bool.and_false]
set_option maxHeartbeats 1000000 in
theorem MJ(p:(Int×Int×Vl)×Ed)(h1:B8 p.1.2.2)(h2:B8 p.2.old)(h3:B8 p.2.new)(hE:ERt p.2):EF Tryz.prog [] 41 [pP (esd p)] (.part (tP (IM p))):=by
 have q:=OD p
 refine AG 54 Tryz.func41 rfl rfl rfl fun w D=>?_
 try refine A3 ?_
 refine BB 0 rfl (Imp.pref_ref _) ?_
 refine A2 (AC rfl rfl rfl rfl rfl .nil) ?_
 try refine A3 ?_
 refine A2 (A9 rfl rfl rfl rfl rfl (A4 rfl rfl rfl (AD rfl (by kernel_rfl) (RP p h1 h2 h3) ⟨B7 (kn rfl) (Imp.ref_pref _),trivial⟩) (A4 rfl rfl rfl (BZ rfl (kn rfl)) .nil))) ?_
 try refine A3 ?_
 refine AB rfl (fun b=>?_) (fun b=>?_)
 ·rw[IK b,Bool.false_and]at q
  try refine A3 ?_
  refine A2 (AC rfl rfl rfl rfl rfl .nil) ?_
  try refine A3 ?_
  exact A8 rfl rfl (.tmp (kn rfl) (.nil)) (AZ q.symm) rfl
 rw[IU b,Bool.true_and]at q
 try refine A3 ?_
 refine A2 (A9 rfl rfl rfl rfl rfl (A4 rfl rfl rfl (AE rfl (kn rfl)) (A4 rfl rfl rfl (AA rfl (kn rfl) off_77_0) (A4 rfl rfl rfl (AF rfl (kn rfl) one_3) .nil)))) ?_
 try refine A3 ?_
 try refine A3 ?_
 refine A2 (A4 rfl rfl rfl (A6 rfl (kn rfl) (kn rfl) AP) (AC rfl rfl rfl rfl rfl .nil)) ?_
 try refine A3 ?_
 refine AB rfl (fun k1=>?_) (fun k1=>?_)
 ·rw[if_pos (of_decide_eq_true k1)]at q
  try refine A3 ?_
  refine A2 (A9 rfl rfl rfl rfl rfl (A4 rfl rfl rfl (AE rfl (kn rfl)) (A4 rfl rfl rfl (AA rfl (kn rfl) off_77_1) (A4 rfl rfl rfl (AF rfl (kn rfl) one_3) (A4 rfl rfl rfl (A6 rfl (kn rfl) (kn rfl) CM) (A9 rfl rfl rfl rfl rfl (Walk.gd _ rfl rfl rfl (fun h=>AN rfl (kn rfl)) (Walk.gd _ rfl rfl rfl (fun h=>AE rfl (A0 rfl h)) (Walk.gd _ rfl rfl rfl (fun h=>AA rfl (A0 rfl h) off_77_1) (Walk.gd _ rfl rfl rfl (fun h=>AF rfl (A0 rfl h) one_3) (Walk.gd _ rfl rfl rfl (fun h=>A6 rfl (A0 rfl h) (kn rfl) L9) (A4 rfl rfl rfl (AO rfl (kn rfl) (fun hb=>A0 rfl hb)) (AC rfl rfl rfl rfl rfl .nil))))))))))))) ?_
  try refine A3 ?_
  exact A8 rfl rfl (.tmp (kn rfl) (.nil)) (AZ q.symm) rfl
 rw[if_neg (of_decide_eq_false k1)]at q
 try refine A3 ?_
 refine A2 (A4 rfl rfl rfl (A6 rfl (kn rfl) (kn rfl) AP) (AC rfl rfl rfl rfl rfl .nil)) ?_
 try refine A3 ?_
 refine IE (ι:=Unit) (fun _=>[(0,.ref (esd p)),(9,.is (.int .i64 p.1.1)),(24,.is (.bool (decide (p.1.1=2\/p.1.1=3))))]) (fun _=>[]) (fun _=>[]) ?_ (fun _=>?_)
 ·refine AB rfl (fun s2=>?_) (fun s2=>?_)
  ·try refine A3 ?_
   refine CK () (fun K=>AL ⟨s_t,s_t,⟨_,rfl,Imp.of_eq (by rw[decide_eq_true (Or.inl (of_decide_eq_true s2)),s2])⟩,trivial⟩ trivial trivial)
  try refine A3 ?_
  refine A2 (A4 rfl rfl rfl (A6 rfl (kn rfl) (kn rfl) AP) (AC rfl rfl rfl rfl rfl .nil)) ?_
  try refine A3 ?_
  refine CK () (fun K=>AL ⟨s_t,s_t,⟨_,rfl,Imp.of_eq (by have:=of_decide_eq_false s2;simp[this])⟩,trivial⟩ trivial trivial)
 try refine A3 ?_
 refine AB rfl (fun k2=>?_) (fun k2=>?_)
 ·rw[if_pos (of_decide_eq_true k2)]at q
  try refine A3 ?_
  refine A2 (A9 rfl rfl rfl rfl rfl (A4 rfl rfl rfl (AE rfl (kn rfl)) (A4 rfl rfl rfl (AA rfl (kn rfl) off_77_2) (A4 rfl rfl rfl (AA rfl (kn rfl) off_27_0) (A4 rfl rfl rfl (AF rfl (kn rfl) one_3) (A4 rfl rfl rfl (A6 rfl (kn rfl) (kn rfl) CM) (A9 rfl rfl rfl rfl rfl (Walk.gd _ rfl rfl rfl (fun h=>AN rfl (kn rfl)) (Walk.gd _ rfl rfl rfl (fun h=>AE rfl (A0 rfl h)) (Walk.gd _ rfl rfl rfl (fun h=>AA rfl (A0 rfl h) off_77_2) (Walk.gd _ rfl rfl rfl (fun h=>AA rfl (A0 rfl h) off_27_0) (Walk.gd _ rfl rfl rfl (fun h=>AF rfl (A0 rfl h) one_3) (Walk.gd _ rfl rfl rfl (fun h=>A6 rfl (A0 rfl h) (kn rfl) L9) (A4 rfl rfl rfl (AO rfl (kn rfl) (fun hb=>A0 rfl hb)) (A9 rfl rfl rfl rfl rfl (Walk.gd _ rfl rfl rfl (fun h=>AN rfl (kn rfl)) (Walk.gd _ rfl rfl rfl (fun h=>AE rfl (A0 rfl h)) (Walk.gd _ rfl rfl rfl (fun h=>AA rfl (A0 rfl h) off_77_2) (Walk.gd _ rfl rfl rfl (fun h=>B2 (vd p.1.2.2) 7 rfl (A0 rfl h) agg_27 sz_27 rfl rfl) (Walk.gd _ rfl rfl rfl (fun h=>AD rfl (by kernel_rfl) (EU p.1.2.2 h1) ⟨(A0 rfl h),trivial⟩) (A4 rfl rfl rfl (AO rfl (kn rfl) (fun hb=>A0 rfl hb)) (AC rfl rfl rfl rfl rfl .nil)))))))))))))))))))))) ?_
  try refine A3 ?_
  exact A8 rfl rfl (.tmp (kn rfl) (.nil)) (AZ (by rw[q];exact QM _)) rfl
 rw[if_neg (of_decide_eq_false k2)]at q
 try refine A3 ?_
 refine A2 (A4 rfl rfl rfl (A6 rfl (kn rfl) (kn rfl) AP) (AC rfl rfl rfl rfl rfl .nil)) ?_
 try refine A3 ?_
 refine AB rfl (fun k4=>?_) (fun k4=>?_)
 ·rw[if_pos (of_decide_eq_true k4)]at q
  try refine A3 ?_
  refine A2 (A9 rfl rfl rfl rfl rfl (A4 rfl rfl rfl (AE rfl (kn rfl)) (A4 rfl rfl rfl (AA rfl (kn rfl) off_77_3) (A4 rfl rfl rfl (AD rfl (by kernel_rfl) (G8 p.2 hE) ⟨B7 (kn rfl) (Imp.ref_pref _),trivial⟩) (AC rfl rfl rfl rfl rfl .nil))))) ?_
  try refine A3 ?_
  exact A8 rfl rfl (.tmp (kn rfl) (.nil)) (AZ q.symm) rfl
 rw[if_neg (of_decide_eq_false k4)]at q
 try refine A3 ?_
 refine A2 (AC rfl rfl rfl rfl rfl .nil) ?_
 try refine A3 ?_
 exact A8 rfl rfl (.tmp (kn rfl) (.nil)) (AZ q.symm) rfl
theorem N5(p:Vl×Ed)(h1:B8 p.1)(hE:ERt p.2):EF Tryz.prog [] 44 [pP (ekd p)] (.part (tP (SU p))):=by
 refine AG 30 Tryz.func44 rfl rfl rfl fun w D=>?_
 try refine A3 ?_
 refine BB 0 rfl (Imp.pref_ref _) ?_
 refine A2 (AC rfl rfl rfl rfl rfl .nil) ?_
 try refine A3 ?_
 refine A2 (A9 rfl rfl rfl rfl rfl (A4 rfl rfl rfl (AE rfl (kn rfl)) (A4 rfl rfl rfl (AA rfl (kn rfl) off_61_0) (A4 rfl rfl rfl (AA rfl (kn rfl) off_27_0) (A4 rfl rfl rfl (AF rfl (kn rfl) one_3) (A4 rfl rfl rfl (A6 rfl (kn rfl) (kn rfl) AP) (A9 rfl rfl rfl rfl rfl (Walk.gd _ rfl rfl rfl (fun h=>AN rfl (kn rfl)) (Walk.gd _ rfl rfl rfl (fun h=>AE rfl (A0 rfl h)) (Walk.gd _ rfl rfl rfl (fun h=>AA rfl (A0 rfl h) off_61_0) (Walk.gd _ rfl rfl rfl (fun h=>AA rfl (A0 rfl h) off_27_0) (Walk.gd _ rfl rfl rfl (fun h=>AF rfl (A0 rfl h) one_3) (Walk.gd _ rfl rfl rfl (fun h=>A6 rfl (A0 rfl h) (kn rfl) AP) (A4 rfl rfl rfl (BO rfl (kn rfl) (fun hb=>A0 rfl hb)) (A9 rfl rfl rfl rfl rfl (Walk.gd _ rfl rfl rfl (fun h=>AN rfl (kn rfl)) (Walk.gd _ rfl rfl rfl (fun h=>AE rfl (A0 rfl h)) (Walk.gd _ rfl rfl rfl (fun h=>AA rfl (A0 rfl h) off_61_0) (Walk.gd _ rfl rfl rfl (fun h=>B2 (vd p.1) 7 rfl (A0 rfl h) agg_27 sz_27 rfl rfl) (Walk.gd _ rfl rfl rfl (fun h=>AD rfl (by kernel_rfl) (EU p.1 h1) ⟨(A0 rfl h),trivial⟩) (A4 rfl rfl rfl (AO rfl (kn rfl) (fun hb=>A0 rfl hb)) (A9 rfl rfl rfl rfl rfl (Walk.gd _ rfl rfl rfl (fun h=>AN rfl (kn rfl)) (Walk.gd _ rfl rfl rfl (fun h=>AE rfl (A0 rfl h)) (Walk.gd _ rfl rfl rfl (fun h=>AA rfl (A0 rfl h) off_61_1) (Walk.gd _ rfl rfl rfl (fun h=>AD rfl (by kernel_rfl) (G8 p.2 hE) ⟨B7 (A0 rfl h) (Imp.ref_pref _),trivial⟩) (A4 rfl rfl rfl (AO rfl (kn rfl) (fun hb=>A0 rfl hb)) (AC rfl rfl rfl rfl rfl .nil)))))))))))))))))))))))))))) ?_
 try refine A3 ?_
 exact A8 rfl rfl (.tmp (kn rfl) (.nil)) (AZ rfl) rfl
theorem NP(p q:Vl×Ed)(h1:B8 p.1)(h2:B8 q.1):EF Tryz.prog [] 45 [pP (ekd p),pP (ekd q)] (.part (tP (FW p q))):=by
 refine AG 28 Tryz.func45 rfl rfl rfl fun w D=>?_
 try refine A3 ?_
 refine BB 0 rfl (Imp.pref_ref _) ?_
 refine BB 1 rfl (Imp.pref_ref _) ?_
 refine A2 (AC rfl rfl rfl rfl rfl .nil) ?_
 try refine A3 ?_
 refine BD BF (by kernel_rfl) (A9 rfl rfl rfl rfl rfl (A4 rfl rfl rfl (AE rfl (kn rfl)) (A4 rfl rfl rfl (AA rfl (kn rfl) off_61_0) (A4 rfl rfl rfl (AA rfl (kn rfl) off_27_0) (A4 rfl rfl rfl (AF rfl (kn rfl) one_3) (A9 rfl rfl rfl rfl rfl (A4 rfl rfl rfl (AE rfl (kn rfl)) (A4 rfl rfl rfl (AA rfl (kn rfl) off_61_0) (A4 rfl rfl rfl (AA rfl (kn rfl) off_27_0) (A4 rfl rfl rfl (AF rfl (kn rfl) one_3) (A4 rfl rfl rfl (A6 rfl (kn rfl) (kn rfl) AP) (A9 rfl rfl rfl rfl rfl (Walk.gd _ rfl rfl rfl (fun h=>AN rfl (kn rfl)) (Walk.gd _ rfl rfl rfl (fun h=>AE rfl (A0 rfl h)) (Walk.gd _ rfl rfl rfl (fun h=>AA rfl (A0 rfl h) off_61_0) (Walk.gd _ rfl rfl rfl (fun h=>B2 (vd p.1) 7 rfl (A0 rfl h) agg_27 sz_27 rfl rfl) (Walk.gd _ rfl rfl rfl (fun h=>AN rfl (kn rfl)) (Walk.gd _ rfl rfl rfl (fun h=>AE rfl (A0 rfl h)) (Walk.gd _ rfl rfl rfl (fun h=>AA rfl (A0 rfl h) off_61_0) (Walk.gd _ rfl rfl rfl (fun h=>B2 (vd q.1) 7 rfl (A0 rfl h) agg_27 sz_27 rfl rfl) (Walk.gd _ rfl rfl rfl (fun h=>AD rfl (by kernel_rfl) (FP p.1 h1 q.1 h2) ⟨(A0 rfl h),⟨(A0 rfl h),trivial⟩⟩) (Walk.gd _ rfl rfl rfl (fun h=>A6 rfl (A0 rfl h) (kn rfl) AY) (A4 rfl rfl rfl (AO rfl (kn rfl) (fun hb=>A0 rfl hb)) (AC rfl rfl rfl rfl rfl .nil)))))))))))))))))))))))) ?_
 try refine A3 ?_
 exact A8 rfl rfl (.tmp (kn rfl) (.nil)) (AZ rfl) rfl
theorem LY(e:Ed)(h1:B8 e.old)(h2:B8 e.new):EF Tryz.prog [] 33 [pP (ed e)] (.part (tP (vright e.old&&vright e.new && !CP e.old e.new))):=by
 refine AG 27 Tryz.func33 rfl rfl rfl fun w D=>?_
 try refine A3 ?_
 refine BB 0 rfl (Imp.pref_ref _) ?_
 refine A2 (AC rfl rfl rfl rfl rfl .nil) ?_
 try refine A3 ?_
 refine BD BF (by kernel_rfl) (A9 rfl rfl rfl rfl rfl (A4 rfl rfl rfl (AE rfl (kn rfl)) (A4 rfl rfl rfl (AA rfl (kn rfl) off_32_1) (A4 rfl rfl rfl (B2 (vd e.old) 7 rfl (kn rfl) agg_27 sz_27 rfl rfl) (A4 rfl rfl rfl (AD rfl (by kernel_rfl) (EU e.old h1) ⟨(kn rfl),trivial⟩) (A9 rfl rfl rfl rfl rfl (Walk.gd _ rfl rfl rfl (fun h=>AN rfl (kn rfl)) (Walk.gd _ rfl rfl rfl (fun h=>AE rfl (A0 rfl h)) (Walk.gd _ rfl rfl rfl (fun h=>AA rfl (A0 rfl h) off_32_2) (Walk.gd _ rfl rfl rfl (fun h=>B2 (vd e.new) 7 rfl (A0 rfl h) agg_27 sz_27 rfl rfl) (Walk.gd _ rfl rfl rfl (fun h=>AD rfl (by kernel_rfl) (EU e.new h2) ⟨(A0 rfl h),trivial⟩) (A4 rfl rfl rfl (AO rfl (kn rfl) (fun hb=>A0 rfl hb)) (A9 rfl rfl rfl rfl rfl (Walk.gd _ rfl rfl rfl (fun h=>AN rfl (kn rfl)) (Walk.gd _ rfl rfl rfl (fun h=>AE rfl (A0 rfl h)) (Walk.gd _ rfl rfl rfl (fun h=>AA rfl (A0 rfl h) off_32_1) (Walk.gd _ rfl rfl rfl (fun h=>B2 (vd e.old) 7 rfl (A0 rfl h) agg_27 sz_27 rfl rfl) (Walk.gd _ rfl rfl rfl (fun h=>AN rfl (kn rfl)) (Walk.gd _ rfl rfl rfl (fun h=>AE rfl (A0 rfl h)) (Walk.gd _ rfl rfl rfl (fun h=>AA rfl (A0 rfl h) off_32_2) (Walk.gd _ rfl rfl rfl (fun h=>B2 (vd e.new) 7 rfl (A0 rfl h) agg_27 sz_27 rfl rfl) (Walk.gd _ rfl rfl rfl (fun h=>AD rfl (by kernel_rfl) (EQ e.old e.new h1 h2) ⟨(A0 rfl h),⟨(A0 rfl h),trivial⟩⟩) (Walk.gd _ rfl rfl rfl (fun h=>BZ rfl (A0 rfl h)) (A4 rfl rfl rfl (AO rfl (kn rfl) (fun hb=>A0 rfl hb)) (AC rfl rfl rfl rfl rfl .nil))))))))))))))))))))))))) ?_
 try refine A3 ?_
 exact A8 rfl rfl (.tmp (kn rfl) (.nil)) (AZ rfl) rfl
theorem KS(e:Ed):EF Tryz.prog [] 34 [pP (ed e)] (.part (tP (IA e))):=by
 refine AG 28 Tryz.func34 rfl rfl rfl fun w D=>?_
 try refine A3 ?_
 refine BB 0 rfl (Imp.pref_ref _) ?_
 refine A2 (AC rfl rfl rfl rfl rfl .nil) ?_
 try refine A3 ?_
 refine A2 (A9 rfl rfl rfl rfl rfl (A4 rfl rfl rfl (AE rfl (kn rfl)) (A4 rfl rfl rfl (AA rfl (kn rfl) off_32_4) (A4 rfl rfl rfl (AF rfl (kn rfl) one_4) .nil)))) ?_
 try refine A3 ?_
 refine AB rfl (fun h=>?_) (fun h=>?_)
 ·try refine A3 ?_
  refine BD BF (by kernel_rfl) (A9 rfl rfl rfl rfl rfl (A4 rfl rfl rfl (AE rfl (kn rfl)) (A4 rfl rfl rfl (AA rfl (kn rfl) off_32_5) (A4 rfl rfl rfl (AF rfl (kn rfl) one_9) (A9 rfl rfl rfl rfl rfl (A4 rfl rfl rfl (AE rfl (kn rfl)) (A4 rfl rfl rfl (AA rfl (kn rfl) off_32_6) (A4 rfl rfl rfl (AF rfl (kn rfl) one_9) (A4 rfl rfl rfl (A6 rfl (kn rfl) (kn rfl) (MD)) (AC rfl rfl rfl rfl rfl .nil)))))))))) ?_
  try refine A3 ?_
  exact A8 rfl rfl (.tmp (kn rfl) (.nil)) (AZ (if_pos h).symm) rfl
 try refine A3 ?_
 refine A2 (A9 rfl rfl rfl rfl rfl (A4 rfl rfl rfl (AE rfl (kn rfl)) (A4 rfl rfl rfl (AA rfl (kn rfl) off_32_5) (A4 rfl rfl rfl (AF rfl (kn rfl) one_9) (A4 rfl rfl rfl (A6 rfl (kn rfl) (kn rfl) (CS (b:=[]))) (A9 rfl rfl rfl rfl rfl (Walk.gd _ rfl rfl rfl (fun h=>AN rfl (kn rfl)) (Walk.gd _ rfl rfl rfl (fun h=>AE rfl (A0 rfl h)) (Walk.gd _ rfl rfl rfl (fun h=>AA rfl (A0 rfl h) off_32_6) (Walk.gd _ rfl rfl rfl (fun h=>AF rfl (A0 rfl h) one_9) (Walk.gd _ rfl rfl rfl (fun h=>A6 rfl (A0 rfl h) (kn rfl) (CS (b:=[]))) (A4 rfl rfl rfl (AO rfl (kn rfl) (fun hb=>A0 rfl hb)) (AC rfl rfl rfl rfl rfl .nil))))))))))))) ?_
 try refine A3 ?_
 exact A8 rfl rfl (.tmp (kn rfl) (.nil)) (AZ (if_neg (by rw[h];decide)).symm) rfl
theorem PS{α:Type}(l:List α):decide ((0:Int)<(l.length:Int)) = !l.isEmpty:=by
 cases l with
 | nil=>rfl
 | cons x l=>exact decide_eq_true (by simp only[List.length_cons];omega)
set_option maxHeartbeats 1000000 in
theorem O3(e:Ed)(hs:e.Sm)(ih:∀ x∈e.kids,ERt x):ERt e:=by
 unfold ERt
 have hl:=hs.lens
 obtain⟨_,o1,o2,_,_,_,h3,h4⟩:=hs.ok.all
 have s1:=o1.short (by decide)
 have s2:=o2.short (by decide)
 have hk:∀ x∈e.kids,B8 x.old/\B8 x.new:=fun x hx=>by
  obtain⟨_,a,b,_⟩:=(hs.kid hx).ok.all
  exact⟨a.short (by decide),b.short (by decide)⟩
 have q:=F6 e
 refine AG 70 Tryz.func19 rfl rfl rfl fun w D=>?_
 try refine A3 ?_
 refine BB 0 rfl (Imp.pref_ref _) ?_
 refine A2 (AC rfl rfl rfl rfl rfl .nil) ?_
 try refine A3 ?_
 refine A2 (A9 rfl rfl rfl rfl rfl (A4 rfl rfl rfl (AD rfl (by kernel_rfl) (NL e s1 s2) ⟨B7 (kn rfl) (Imp.ref_pref _),trivial⟩) (A4 rfl rfl rfl (BZ rfl (kn rfl)) .nil))) ?_
 try refine A3 ?_
 refine AB rfl (fun b=>?_) (fun b=>?_)
 ·rw[IK b,Bool.false_and]at q
  try refine A3 ?_
  refine A2 (AC rfl rfl rfl rfl rfl .nil) ?_
  try refine A3 ?_
  exact A8 rfl rfl (.tmp (kn rfl) (.nil)) (AZ q.symm) rfl
 rw[IU b,Bool.true_and]at q
 try refine A3 ?_
 refine A2 (A9 rfl rfl rfl rfl rfl (A4 rfl rfl rfl (AE rfl (kn rfl)) (A4 rfl rfl rfl (AA rfl (kn rfl) off_32_0) (A4 rfl rfl rfl (AF rfl (kn rfl) one_3) .nil)))) ?_
 try refine A3 ?_
 try refine A3 ?_
 refine A2 (A4 rfl rfl rfl (A6 rfl (kn rfl) (kn rfl) AP) (AC rfl rfl rfl rfl rfl .nil)) ?_
 try refine A3 ?_
 refine AB rfl (fun c=>?_) (fun c=>?_)
 ·rw[if_pos (of_decide_eq_true c)]at q
  try refine A3 ?_
  refine A2 (AC rfl rfl rfl rfl rfl .nil) ?_
  try refine A3 ?_
  exact A8 rfl rfl (.tmp (kn rfl) (.nil)) (AZ q.symm) rfl
 rw[if_neg (of_decide_eq_false c)]at q
 try refine A3 ?_
 refine A2 (A4 rfl rfl rfl (A6 rfl (kn rfl) (kn rfl) AP) (AC rfl rfl rfl rfl rfl .nil)) ?_
 try refine A3 ?_
 refine AB rfl (fun c=>?_) (fun c=>?_)
 ·rw[if_pos (of_decide_eq_true c)]at q
  try refine A3 ?_
  refine A2 (A9 rfl rfl rfl rfl rfl (A4 rfl rfl rfl (AD rfl (by kernel_rfl) (LY e s1 s2) ⟨B7 (kn rfl) (Imp.ref_pref _),trivial⟩) (AC rfl rfl rfl rfl rfl .nil))) ?_
  try refine A3 ?_
  exact A8 rfl rfl (.tmp (kn rfl) (.nil)) (AZ q.symm) rfl
 rw[if_neg (of_decide_eq_false c)]at q
 try refine A3 ?_
 refine A2 (A4 rfl rfl rfl (A6 rfl (kn rfl) (kn rfl) AP) (AC rfl rfl rfl rfl rfl .nil)) ?_
 try refine A3 ?_
 refine AB rfl (fun c=>?_) (fun c=>?_)
 ·rw[if_pos (of_decide_eq_true c),<- PS]at q
  try refine A3 ?_
  refine A2 (A9 rfl rfl rfl rfl rfl (A4 rfl rfl rfl (AD rfl (by kernel_rfl) (KS e) ⟨B7 (kn rfl) (Imp.ref_pref _),trivial⟩) (A9 rfl rfl rfl rfl rfl (Walk.gd _ rfl rfl rfl (fun h=>AN rfl (kn rfl)) (Walk.gd _ rfl rfl rfl (fun h=>AE rfl (A0 rfl h)) (Walk.gd _ rfl rfl rfl (fun h=>AA rfl (A0 rfl h) off_32_4) (Walk.gd _ rfl rfl rfl (fun h=>AF rfl (A0 rfl h) one_4) (Walk.gd _ rfl rfl rfl (fun h=>AN rfl (A0 rfl h)) (Walk.gd _ rfl rfl rfl (fun h=>AN rfl (kn rfl)) (Walk.gd _ rfl rfl rfl (fun h=>AE rfl (A0 rfl h)) (Walk.gd _ rfl rfl rfl (fun h=>AA rfl (A0 rfl h) off_32_3) (Walk.gd _ rfl rfl rfl (fun h=>AF rfl (A0 rfl h) one_28) (Walk.gd _ rfl rfl rfl (fun h=>AR rfl (A0 rfl h) sle_28) (Walk.gd _ rfl rfl rfl (fun h=>A6 rfl (A0 rfl h) (kn rfl) BN) (Walk.gd _ rfl rfl rfl (fun h=>BO rfl (A0 rfl h) (fun hb=>A0 rfl (gb h hb))) (A4 rfl rfl rfl (AO rfl (kn rfl) (fun hb=>A0 rfl hb)) (A9 rfl rfl rfl rfl rfl (Walk.gd _ rfl rfl rfl (fun h=>AN rfl (kn rfl)) (Walk.gd _ rfl rfl rfl (fun h=>AE rfl (A0 rfl h)) (Walk.gd _ rfl rfl rfl (fun h=>AA rfl (A0 rfl h) off_32_3) (Walk.gd _ rfl rfl rfl (fun h=>AF rfl (A0 rfl h) one_28) (Walk.gd _ rfl rfl rfl (fun h=>AD rfl (by kernel_rfl) (Q5 36 37 (by kernel_rfl) (by kernel_rfl) e.fields (by omega) JV EH (fun x hx=>L3 x (ih _ (Ed.kid_f hx))) (fun x _ y _=>KX x y)) ⟨(A0 rfl h),⟨(kn rfl),⟨(kn rfl),trivial⟩⟩⟩) (A4 rfl rfl rfl (AO rfl (kn rfl) (fun hb=>A0 rfl hb)) (AC rfl rfl rfl rfl rfl .nil)))))))))))))))))))))))) ?_
  try refine A3 ?_
  exact A8 rfl rfl (.tmp (kn rfl) (.nil)) (AZ q.symm) rfl
 rw[if_neg (of_decide_eq_false c)]at q
 try refine A3 ?_
 refine A2 (A4 rfl rfl rfl (A6 rfl (kn rfl) (kn rfl) AP) (AC rfl rfl rfl rfl rfl .nil)) ?_
 try refine A3 ?_
 refine AB rfl (fun c=>?_) (fun c=>?_)
 ·rw[if_pos (of_decide_eq_true c)]at q
  try refine A3 ?_
  refine A2 (A9 rfl rfl rfl rfl rfl (A4 rfl rfl rfl (AE rfl (kn rfl)) (A4 rfl rfl rfl (AA rfl (kn rfl) off_32_7) (A4 rfl rfl rfl (AF rfl (kn rfl) one_29) (A4 rfl rfl rfl (AD rfl (by kernel_rfl) (U6 39 (by kernel_rfl) e.steps (by omega) DG (fun x _=>Q8 x)) ⟨(kn rfl),⟨(kn rfl),trivial⟩⟩) (A9 rfl rfl rfl rfl rfl (Walk.gd _ rfl rfl rfl (fun h=>AN rfl (kn rfl)) (Walk.gd _ rfl rfl rfl (fun h=>AE rfl (A0 rfl h)) (Walk.gd _ rfl rfl rfl (fun h=>AA rfl (A0 rfl h) off_32_7) (Walk.gd _ rfl rfl rfl (fun h=>AF rfl (A0 rfl h) one_29) (Walk.gd _ rfl rfl rfl (fun h=>AD rfl (by kernel_rfl) (QU 41 42 (by kernel_rfl) (by kernel_rfl) e.steps (by omega) IM EM (fun x hx=>MJ x ((h3 x hx).2.2.2.short (by decide)) (hk _ (Ed.kid_s hx)).1 (hk _ (Ed.kid_s hx)).2 (ih _ (Ed.kid_s hx))) (fun x _ y _=>MI x y)) ⟨(A0 rfl h),⟨(kn rfl),⟨(kn rfl),trivial⟩⟩⟩) (A4 rfl rfl rfl (AO rfl (kn rfl) (fun hb=>A0 rfl hb)) (AC rfl rfl rfl rfl rfl .nil))))))))))))) ?_
  try refine A3 ?_
  exact A8 rfl rfl (.tmp (kn rfl) (.nil)) (AZ q.symm) rfl
 rw[if_neg (of_decide_eq_false c)]at q
 try refine A3 ?_
 refine A2 (A4 rfl rfl rfl (A6 rfl (kn rfl) (kn rfl) AP) (AC rfl rfl rfl rfl rfl .nil)) ?_
 try refine A3 ?_
 refine AB rfl (fun c=>?_) (fun c=>?_)
 ·rw[if_pos (of_decide_eq_true c),<- PS]at q
  try refine A3 ?_
  refine A2 (A9 rfl rfl rfl rfl rfl (A4 rfl rfl rfl (AE rfl (kn rfl)) (A4 rfl rfl rfl (AA rfl (kn rfl) off_32_8) (A4 rfl rfl rfl (AF rfl (kn rfl) one_30) (A4 rfl rfl rfl (AR rfl (kn rfl) sle_30) (A4 rfl rfl rfl (A6 rfl (kn rfl) (kn rfl) BN) (A9 rfl rfl rfl rfl rfl (Walk.gd _ rfl rfl rfl (fun h=>AN rfl (kn rfl)) (Walk.gd _ rfl rfl rfl (fun h=>AE rfl (A0 rfl h)) (Walk.gd _ rfl rfl rfl (fun h=>AA rfl (A0 rfl h) off_32_8) (Walk.gd _ rfl rfl rfl (fun h=>AF rfl (A0 rfl h) one_30) (Walk.gd _ rfl rfl rfl (fun h=>AD rfl (by kernel_rfl) (QY 44 45 (by kernel_rfl) (by kernel_rfl) e.keys (by omega) SU FW (fun x hx=>N5 x ((h4 x hx).short (by decide)) (ih _ (Ed.kid_k hx))) (fun x hx y hy=>NP x y ((h4 x hx).short (by decide)) ((h4 y hy).short (by decide)))) ⟨(A0 rfl h),⟨(kn rfl),⟨(kn rfl),trivial⟩⟩⟩) (A4 rfl rfl rfl (AO rfl (kn rfl) (fun hb=>A0 rfl hb)) (AC rfl rfl rfl rfl rfl .nil)))))))))))))) ?_
  try refine A3 ?_
  exact A8 rfl rfl (.tmp (kn rfl) (.nil)) (AZ q.symm) rfl
 rw[if_neg (of_decide_eq_false c)]at q
 try refine A3 ?_
 refine A2 (AC rfl rfl rfl rfl rfl .nil) ?_
 try refine A3 ?_
 exact A8 rfl rfl (.tmp (kn rfl) (.nil)) (AZ q.symm) rfl
theorem UA(e:Ed):e.Sm->ERt e:=Ed.kids_ind (P:=fun e=>e.Sm->ERt e) (fun e ih h=>O3 e h fun x hx=>ih x hx (h.kid hx)) e
theorem ID(e:Ed)(hs:e.Sm):EF Tryz.prog [] 7 [.many (ed e)] (.part (tP (BU e))):=by
 refine AG 4 Tryz.func7 rfl rfl rfl fun w D=>?_
 try refine A3 ?_
 refine AI ?_
 refine B9 1 rfl rfl rfl rfl (kn rfl) rfl rfl rfl rfl ?_
 refine BX ?_
 refine AM ?_
 try refine A3 ?_
 refine I2 1 1 rfl rfl rfl ?_
 refine BB 1 rfl ((Imp.ptr_ref _ _).trans (Imp.ref_pref _)) ?_
 refine A2 (A4 rfl rfl rfl (AD rfl (by kernel_rfl) (UA e hs) ⟨(kn rfl),trivial⟩) (AC rfl rfl rfl rfl rfl .nil)) ?_
 try refine A3 ?_
 exact A8 rfl rfl (.tmp (kn rfl) (.nil)) (Imp.of_eq rfl) rfl
end Go.Proofs.YtojdpgeeajaojaaGreat
