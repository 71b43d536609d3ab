/- Part 22. Conditions: as each theorem says. -/
import Derived.Test.YtecfdcdkkgmkpaaIO21
import Derived.Test.YtecfdcdkkgmkpaaProg
set_option maxRecDepth 100000
namespace Go.Proofs.Ytecfdcdkkgmkpaa
open Go.RowKit
def ERt(e:Ed):Prop:=EF Try.prog [] 20 [pP (ed e)] (.part (tP (B3 e)))
theorem GO(e:Ed)(hE:ERt e):EF Try.prog [] 89 [pP (ed e)] (.part (tP (!decide (e.kind=0)&&B3 e))):=by
 refine AH 12 Try.func89 rfl rfl rfl fun w D=>?_
 try refine A2 ?_
 refine C0 0 rfl (Imp.pref_ref _) ?_
 refine A1 (AC rfl rfl rfl rfl rfl .nil) ?_
 try refine A2 ?_
 refine A1 (A9 rfl rfl rfl rfl rfl (A4 rfl rfl rfl (AN rfl (kn rfl)) (A4 rfl rfl rfl (AB rfl (kn rfl) off_32_0) (A4 rfl rfl rfl (AI rfl (kn rfl) one_3) (A4 rfl rfl rfl (A6 rfl (kn rfl) (kn rfl) CE) (A9 rfl rfl rfl rfl rfl (Walk.gd _ rfl rfl rfl (fun h=>AW rfl (kn rfl)) (Walk.gd _ rfl rfl rfl (fun h=>AE rfl (by kernel_rfl) (hE) ⟨CU (A3 rfl h) (Imp.ref_pref _),trivial⟩) (A4 rfl rfl rfl (AQ rfl (kn rfl) (fun hb=>A3 rfl hb)) (AC rfl rfl rfl rfl rfl .nil)))))))))) ?_
 try refine A2 ?_
 exact A8 rfl rfl (.tmp (kn rfl) (.nil)) (B4 rfl) rfl
theorem M8(p:Int×Ed)(hE:ERt p.2):EF Try.prog [] 38 [pP (efd p)] (.part (tP (HT p))):=by
 refine AH 21 Try.func38 rfl rfl rfl fun w D=>?_
 try refine A2 ?_
 refine C0 0 rfl (Imp.pref_ref _) ?_
 refine A1 (AC rfl rfl rfl rfl rfl .nil) ?_
 try refine A2 ?_
 refine A1 (A9 rfl rfl rfl rfl rfl (A4 rfl rfl rfl (AN rfl (kn rfl)) (A4 rfl rfl rfl (AB rfl (kn rfl) off_61_0) (A4 rfl rfl rfl (AI rfl (kn rfl) one_3) (A4 rfl rfl rfl (A6 rfl (kn rfl) (kn rfl) DM) (A9 rfl rfl rfl rfl rfl (Walk.gd _ rfl rfl rfl (fun h=>AW rfl (kn rfl)) (Walk.gd _ rfl rfl rfl (fun h=>AN rfl (A3 rfl h)) (Walk.gd _ rfl rfl rfl (fun h=>AB rfl (A3 rfl h) off_61_0) (Walk.gd _ rfl rfl rfl (fun h=>AI rfl (A3 rfl h) one_3) (Walk.gd _ rfl rfl rfl (fun h=>A6 rfl (A3 rfl h) (kn rfl) PR) (A4 rfl rfl rfl (AQ rfl (kn rfl) (fun hb=>A3 rfl hb)) (A9 rfl rfl rfl rfl rfl (Walk.gd _ rfl rfl rfl (fun h=>AW rfl (kn rfl)) (Walk.gd _ rfl rfl rfl (fun h=>AN rfl (A3 rfl h)) (Walk.gd _ rfl rfl rfl (fun h=>AB rfl (A3 rfl h) off_61_1) (Walk.gd _ rfl rfl rfl (fun h=>AE rfl (by kernel_rfl) (GO p.2 hE) ⟨CU (A3 rfl h) (Imp.ref_pref _),trivial⟩) (A4 rfl rfl rfl (AQ rfl (kn rfl) (fun hb=>A3 rfl hb)) (AC rfl rfl rfl rfl rfl .nil))))))))))))))))))) ?_
 try refine A2 ?_
 exact A8 rfl rfl (.tmp (kn rfl) (.nil)) (B4 rfl) rfl
theorem M4(p q:Int×Ed):EF Try.prog [] 39 [pP (efd p),pP (efd q)] (.part (tP (FA p q))):=by
 refine AH 14 Try.func39 rfl rfl rfl fun w D=>?_
 try refine A2 ?_
 refine C0 0 rfl (Imp.pref_ref _) ?_
 refine C0 1 rfl (Imp.pref_ref _) ?_
 refine A1 (AC rfl rfl rfl rfl rfl .nil) ?_
 try refine A2 ?_
 refine CT C5 (by kernel_rfl) (A9 rfl rfl rfl rfl rfl (A4 rfl rfl rfl (AN rfl (kn rfl)) (A4 rfl rfl rfl (AB rfl (kn rfl) off_61_0) (A4 rfl rfl rfl (AI rfl (kn rfl) one_3) (A9 rfl rfl rfl rfl rfl (A4 rfl rfl rfl (AN rfl (kn rfl)) (A4 rfl rfl rfl (AB rfl (kn rfl) off_61_0) (A4 rfl rfl rfl (AI rfl (kn rfl) one_3) (A4 rfl rfl rfl (A6 rfl (kn rfl) (kn rfl) B7) (AC rfl rfl rfl rfl rfl .nil)))))))))) ?_
 try refine A2 ?_
 exact A8 rfl rfl (.tmp (kn rfl) (.nil)) (B4 rfl) rfl
theorem SH(p:(Int×Int×Vl)×Ed):EF Try.prog [] 41 [pP (esd p)] (.part (tP (JE p))):=by
 refine AH 8 Try.func41 rfl rfl rfl fun w D=>?_
 try refine A2 ?_
 refine C0 0 rfl (Imp.pref_ref _) ?_
 refine A1 (AC rfl rfl rfl rfl rfl .nil) ?_
 try refine A2 ?_
 refine A1 (A9 rfl rfl rfl rfl rfl (A4 rfl rfl rfl (AN rfl (kn rfl)) (A4 rfl rfl rfl (AB rfl (kn rfl) off_76_0) (A4 rfl rfl rfl (AI rfl (kn rfl) one_3) (A4 rfl rfl rfl (A6 rfl (kn rfl) (kn rfl) CE) (AC rfl rfl rfl rfl rfl .nil)))))) ?_
 try refine A2 ?_
 exact A8 rfl rfl (.tmp (kn rfl) (.nil)) (B4 rfl) rfl
theorem NZ(p q:(Int×Int×Vl)×Ed):EF Try.prog [] 44 [pP (esd p),pP (esd q)] (.part (tP (CH p q))):=by
 refine AH 23 Try.func44 rfl rfl rfl fun w D=>?_
 try refine A2 ?_
 refine C0 0 rfl (Imp.pref_ref _) ?_
 refine C0 1 rfl (Imp.pref_ref _) ?_
 refine A1 (AC rfl rfl rfl rfl rfl .nil) ?_
 try refine A2 ?_
 refine A1 (A9 rfl rfl rfl rfl rfl (A4 rfl rfl rfl (AN rfl (kn rfl)) (A4 rfl rfl rfl (AB rfl (kn rfl) off_76_0) (A4 rfl rfl rfl (AI rfl (kn rfl) one_3) .nil)))) ?_
 try refine A2 ?_
 try refine A2 ?_
 refine A1 (A4 rfl rfl rfl (A6 rfl (kn rfl) (kn rfl) AO) (AC rfl rfl rfl rfl rfl .nil)) ?_
 try refine A2 ?_
 refine AA rfl (fun h=>?_) (fun h=>?_)
 ·try refine A2 ?_
  refine A1 (A9 rfl rfl rfl rfl rfl (A4 rfl rfl rfl (AN rfl (kn rfl)) (A4 rfl rfl rfl (AB rfl (kn rfl) off_76_0) (A4 rfl rfl rfl (AI rfl (kn rfl) one_3) (A4 rfl rfl rfl (A6 rfl (kn rfl) (kn rfl) CE) (AC rfl rfl rfl rfl rfl .nil)))))) ?_
  try refine A2 ?_
  exact A8 rfl rfl (.tmp (kn rfl) (.nil)) (B4 (if_pos (of_decide_eq_true h)).symm) rfl
 try refine A2 ?_
 refine A1 (A4 rfl rfl rfl (A6 rfl (kn rfl) (kn rfl) AO) (AC rfl rfl rfl rfl rfl .nil)) ?_
 try refine A2 ?_
 refine AA rfl (fun h3=>?_) (fun h3=>?_)
 ·try refine A2 ?_
  refine A1 (A9 rfl rfl rfl rfl rfl (A4 rfl rfl rfl (AN rfl (kn rfl)) (A4 rfl rfl rfl (AB rfl (kn rfl) off_76_0) (A4 rfl rfl rfl (AI rfl (kn rfl) one_3) (A4 rfl rfl rfl (A6 rfl (kn rfl) (kn rfl) CE) (AC rfl rfl rfl rfl rfl .nil)))))) ?_
  try refine A2 ?_
  exact A8 rfl rfl (.tmp (kn rfl) (.nil)) (B4 ((if_neg (of_decide_eq_false h)).trans (if_pos (of_decide_eq_true h3))).symm) rfl
 try refine A2 ?_
 refine A1 (AC rfl rfl rfl rfl rfl .nil) ?_
 try refine A2 ?_
 exact A8 rfl rfl (.tmp (kn rfl) (.nil)) (B4 ((if_neg (of_decide_eq_false h)).trans (if_neg (of_decide_eq_false h3))).symm) rfl
theorem KF(x:Ed):(decide (x.kind=0)&&B3 x)=(decide (x.kind=0)&&EA x):=by
 by_cases h:x.kind=0
 ·rw[DV,if_pos h,Bool.and_true]
 ·rw[decide_eq_false h,Bool.false_and,Bool.false_and]
theorem S5(v:Vl):(decide (1<=v.kind)&&decide (v.kind<=3)&&vright v)=KV v:=by
 unfold KV
 congr 1
 rw[<- Bool.decide_and,<- Bool.decide_or,<- Bool.decide_or]
 exact decide_eq_decide.2 (by omega)
theorem R3:EA EZ=true:=by
 unfold EA EZ
 simp[Ed.kind,Ed.old,Ed.new,Ed.fields,Ed.rests,Ed.ro,Ed.rn,Ed.steps,Ed.keys,EC]
theorem QV(s:(Int×Int×Vl)×Ed):C2 s=(UC s&&(if s.1.1=1 then decide (1<=s.1.2.1)&&decide (s.1.2.1<=1048576)else if s.1.1=2\/s.1.1=3 then KV s.1.2.2 else if s.1.1=4 then !decide (s.2.kind=0)&&B3 s.2 else false)):=by
 unfold C2 I7 UC DU
 by_cases k1:s.1.1=1
 ·simp only[if_pos k1,KF]
  cases E5 s.1.2.2<;>cases EA s.2<;>simp
  cases decide (s.2.kind=0)<;>simp
 by_cases k2:s.1.1=2\/s.1.1=3
 ·simp only[if_neg k1,if_pos k2,KF,EC]
  cases KV s.1.2.2<;>cases EA s.2<;>simp
 by_cases k4:s.1.1=4
 ·simp only[if_neg k1,if_neg k2,if_pos k4,R3]
  simp[EZ,Ed.kind,Bool.and_assoc]
 simp only[if_neg k1,if_neg k2,if_neg k4,Bool.and_false]
set_option maxHeartbeats 1000000 in
theorem OC(p:(Int×Int×Vl)×Ed)(h1:BH p.1.2.2)(h2:BH p.2.old)(h3:BH p.2.new)(hE:ERt p.2):EF Try.prog [] 43 [pP (esd p)] (.part (tP (C2 p))):=by
 have q:=QV p
 refine AH 54 Try.func43 rfl rfl rfl fun w D=>?_
 try refine A2 ?_
 refine C0 0 rfl (Imp.pref_ref _) ?_
 refine A1 (AC rfl rfl rfl rfl rfl .nil) ?_
 try refine A2 ?_
 refine A1 (A9 rfl rfl rfl rfl rfl (A4 rfl rfl rfl (AE rfl (by kernel_rfl) (TC p h1 h2 h3) ⟨CU (kn rfl) (Imp.ref_pref _),trivial⟩) (A4 rfl rfl rfl (D1 rfl (kn rfl)) .nil))) ?_
 try refine A2 ?_
 refine AA rfl (fun b=>?_) (fun b=>?_)
 ·rw[W6 b,Bool.false_and]at q
  try refine A2 ?_
  refine A1 (AC rfl rfl rfl rfl rfl .nil) ?_
  try refine A2 ?_
  exact A8 rfl rfl (.tmp (kn rfl) (.nil)) (B4 q.symm) rfl
 rw[W2 b,Bool.true_and]at q
 try refine A2 ?_
 refine A1 (A9 rfl rfl rfl rfl rfl (A4 rfl rfl rfl (AN rfl (kn rfl)) (A4 rfl rfl rfl (AB rfl (kn rfl) off_76_0) (A4 rfl rfl rfl (AI rfl (kn rfl) one_3) .nil)))) ?_
 try refine A2 ?_
 try refine A2 ?_
 refine A1 (A4 rfl rfl rfl (A6 rfl (kn rfl) (kn rfl) AO) (AC rfl rfl rfl rfl rfl .nil)) ?_
 try refine A2 ?_
 refine AA rfl (fun k1=>?_) (fun k1=>?_)
 ·rw[if_pos (of_decide_eq_true k1)]at q
  try refine A2 ?_
  refine A1 (A9 rfl rfl rfl rfl rfl (A4 rfl rfl rfl (AN rfl (kn rfl)) (A4 rfl rfl rfl (AB rfl (kn rfl) off_76_1) (A4 rfl rfl rfl (AI rfl (kn rfl) one_3) (A4 rfl rfl rfl (A6 rfl (kn rfl) (kn rfl) DM) (A9 rfl rfl rfl rfl rfl (Walk.gd _ rfl rfl rfl (fun h=>AW rfl (kn rfl)) (Walk.gd _ rfl rfl rfl (fun h=>AN rfl (A3 rfl h)) (Walk.gd _ rfl rfl rfl (fun h=>AB rfl (A3 rfl h) off_76_1) (Walk.gd _ rfl rfl rfl (fun h=>AI rfl (A3 rfl h) one_3) (Walk.gd _ rfl rfl rfl (fun h=>A6 rfl (A3 rfl h) (kn rfl) PR) (A4 rfl rfl rfl (AQ rfl (kn rfl) (fun hb=>A3 rfl hb)) (AC rfl rfl rfl rfl rfl .nil))))))))))))) ?_
  try refine A2 ?_
  exact A8 rfl rfl (.tmp (kn rfl) (.nil)) (B4 q.symm) rfl
 rw[if_neg (of_decide_eq_false k1)]at q
 try refine A2 ?_
 refine A1 (A4 rfl rfl rfl (A6 rfl (kn rfl) (kn rfl) AO) (AC rfl rfl rfl rfl rfl .nil)) ?_
 try refine A2 ?_
 refine NL (ι:=Unit) (fun _=>[(0,.ref (esd p)),(9,.is (.int .i64 p.1.1)),(24,.is (.bool (decide (p.1.1=2\/p.1.1=3))))]) (fun _=>[]) (fun _=>[]) ?_ (fun _=>?_)
 ·refine AA rfl (fun s2=>?_) (fun s2=>?_)
  ·try refine A2 ?_
   refine DY () (fun K=>AM ⟨s_t,s_t,⟨_,rfl,Imp.of_eq (by rw[decide_eq_true (Or.inl (of_decide_eq_true s2)),s2])⟩,trivial⟩ trivial trivial)
  try refine A2 ?_
  refine A1 (A4 rfl rfl rfl (A6 rfl (kn rfl) (kn rfl) AO) (AC rfl rfl rfl rfl rfl .nil)) ?_
  try refine A2 ?_
  refine DY () (fun K=>AM ⟨s_t,s_t,⟨_,rfl,Imp.of_eq (by have:=of_decide_eq_false s2;simp[this])⟩,trivial⟩ trivial trivial)
 try refine A2 ?_
 refine AA rfl (fun k2=>?_) (fun k2=>?_)
 ·rw[if_pos (of_decide_eq_true k2)]at q
  try refine A2 ?_
  refine A1 (A9 rfl rfl rfl rfl rfl (A4 rfl rfl rfl (AN rfl (kn rfl)) (A4 rfl rfl rfl (AB rfl (kn rfl) off_76_2) (A4 rfl rfl rfl (AB rfl (kn rfl) off_27_0) (A4 rfl rfl rfl (AI rfl (kn rfl) one_3) (A4 rfl rfl rfl (A6 rfl (kn rfl) (kn rfl) DM) (A9 rfl rfl rfl rfl rfl (Walk.gd _ rfl rfl rfl (fun h=>AW rfl (kn rfl)) (Walk.gd _ rfl rfl rfl (fun h=>AN rfl (A3 rfl h)) (Walk.gd _ rfl rfl rfl (fun h=>AB rfl (A3 rfl h) off_76_2) (Walk.gd _ rfl rfl rfl (fun h=>AB rfl (A3 rfl h) off_27_0) (Walk.gd _ rfl rfl rfl (fun h=>AI rfl (A3 rfl h) one_3) (Walk.gd _ rfl rfl rfl (fun h=>A6 rfl (A3 rfl h) (kn rfl) PR) (A4 rfl rfl rfl (AQ rfl (kn rfl) (fun hb=>A3 rfl hb)) (A9 rfl rfl rfl rfl rfl (Walk.gd _ rfl rfl rfl (fun h=>AW rfl (kn rfl)) (Walk.gd _ rfl rfl rfl (fun h=>AN rfl (A3 rfl h)) (Walk.gd _ rfl rfl rfl (fun h=>AB rfl (A3 rfl h) off_76_2) (Walk.gd _ rfl rfl rfl (fun h=>C1 (vd p.1.2.2) 7 rfl (A3 rfl h) agg_27 sz_27 rfl rfl) (Walk.gd _ rfl rfl rfl (fun h=>AE rfl (by kernel_rfl) (FI p.1.2.2 h1) ⟨(A3 rfl h),trivial⟩) (A4 rfl rfl rfl (AQ rfl (kn rfl) (fun hb=>A3 rfl hb)) (AC rfl rfl rfl rfl rfl .nil)))))))))))))))))))))) ?_
  try refine A2 ?_
  exact A8 rfl rfl (.tmp (kn rfl) (.nil)) (B4 (by rw[q];exact S5 _)) rfl
 rw[if_neg (of_decide_eq_false k2)]at q
 try refine A2 ?_
 refine A1 (A4 rfl rfl rfl (A6 rfl (kn rfl) (kn rfl) AO) (AC rfl rfl rfl rfl rfl .nil)) ?_
 try refine A2 ?_
 refine AA rfl (fun k4=>?_) (fun k4=>?_)
 ·rw[if_pos (of_decide_eq_true k4)]at q
  try refine A2 ?_
  refine A1 (A9 rfl rfl rfl rfl rfl (A4 rfl rfl rfl (AN rfl (kn rfl)) (A4 rfl rfl rfl (AB rfl (kn rfl) off_76_3) (A4 rfl rfl rfl (AE rfl (by kernel_rfl) (GO p.2 hE) ⟨CU (kn rfl) (Imp.ref_pref _),trivial⟩) (AC rfl rfl rfl rfl rfl .nil))))) ?_
  try refine A2 ?_
  exact A8 rfl rfl (.tmp (kn rfl) (.nil)) (B4 q.symm) rfl
 rw[if_neg (of_decide_eq_false k4)]at q
 try refine A2 ?_
 refine A1 (AC rfl rfl rfl rfl rfl .nil) ?_
 try refine A2 ?_
 exact A8 rfl rfl (.tmp (kn rfl) (.nil)) (B4 q.symm) rfl
theorem OH(p:Vl×Ed)(h1:BH p.1)(hE:ERt p.2):EF Try.prog [] 46 [pP (ekd p)] (.part (tP (R5 p))):=by
 refine AH 30 Try.func46 rfl rfl rfl fun w D=>?_
 try refine A2 ?_
 refine C0 0 rfl (Imp.pref_ref _) ?_
 refine A1 (AC rfl rfl rfl rfl rfl .nil) ?_
 try refine A2 ?_
 refine A1 (A9 rfl rfl rfl rfl rfl (A4 rfl rfl rfl (AN rfl (kn rfl)) (A4 rfl rfl rfl (AB rfl (kn rfl) off_65_0) (A4 rfl rfl rfl (AB rfl (kn rfl) off_27_0) (A4 rfl rfl rfl (AI rfl (kn rfl) one_3) (A4 rfl rfl rfl (A6 rfl (kn rfl) (kn rfl) AO) (A9 rfl rfl rfl rfl rfl (Walk.gd _ rfl rfl rfl (fun h=>AW rfl (kn rfl)) (Walk.gd _ rfl rfl rfl (fun h=>AN rfl (A3 rfl h)) (Walk.gd _ rfl rfl rfl (fun h=>AB rfl (A3 rfl h) off_65_0) (Walk.gd _ rfl rfl rfl (fun h=>AB rfl (A3 rfl h) off_27_0) (Walk.gd _ rfl rfl rfl (fun h=>AI rfl (A3 rfl h) one_3) (Walk.gd _ rfl rfl rfl (fun h=>A6 rfl (A3 rfl h) (kn rfl) AO) (A4 rfl rfl rfl (DI rfl (kn rfl) (fun hb=>A3 rfl hb)) (A9 rfl rfl rfl rfl rfl (Walk.gd _ rfl rfl rfl (fun h=>AW rfl (kn rfl)) (Walk.gd _ rfl rfl rfl (fun h=>AN rfl (A3 rfl h)) (Walk.gd _ rfl rfl rfl (fun h=>AB rfl (A3 rfl h) off_65_0) (Walk.gd _ rfl rfl rfl (fun h=>C1 (vd p.1) 7 rfl (A3 rfl h) agg_27 sz_27 rfl rfl) (Walk.gd _ rfl rfl rfl (fun h=>AE rfl (by kernel_rfl) (FI p.1 h1) ⟨(A3 rfl h),trivial⟩) (A4 rfl rfl rfl (AQ rfl (kn rfl) (fun hb=>A3 rfl hb)) (A9 rfl rfl rfl rfl rfl (Walk.gd _ rfl rfl rfl (fun h=>AW rfl (kn rfl)) (Walk.gd _ rfl rfl rfl (fun h=>AN rfl (A3 rfl h)) (Walk.gd _ rfl rfl rfl (fun h=>AB rfl (A3 rfl h) off_65_1) (Walk.gd _ rfl rfl rfl (fun h=>AE rfl (by kernel_rfl) (GO p.2 hE) ⟨CU (A3 rfl h) (Imp.ref_pref _),trivial⟩) (A4 rfl rfl rfl (AQ rfl (kn rfl) (fun hb=>A3 rfl hb)) (AC rfl rfl rfl rfl rfl .nil)))))))))))))))))))))))))))) ?_
 try refine A2 ?_
 exact A8 rfl rfl (.tmp (kn rfl) (.nil)) (B4 rfl) rfl
theorem PE(p q:Vl×Ed)(h1:BH p.1)(h2:BH q.1):EF Try.prog [] 47 [pP (ekd p),pP (ekd q)] (.part (tP (JQ p q))):=by
 refine AH 28 Try.func47 rfl rfl rfl fun w D=>?_
 try refine A2 ?_
 refine C0 0 rfl (Imp.pref_ref _) ?_
 refine C0 1 rfl (Imp.pref_ref _) ?_
 refine A1 (AC rfl rfl rfl rfl rfl .nil) ?_
 try refine A2 ?_
 refine CT C5 (by kernel_rfl) (A9 rfl rfl rfl rfl rfl (A4 rfl rfl rfl (AN rfl (kn rfl)) (A4 rfl rfl rfl (AB rfl (kn rfl) off_65_0) (A4 rfl rfl rfl (AB rfl (kn rfl) off_27_0) (A4 rfl rfl rfl (AI rfl (kn rfl) one_3) (A9 rfl rfl rfl rfl rfl (A4 rfl rfl rfl (AN rfl (kn rfl)) (A4 rfl rfl rfl (AB rfl (kn rfl) off_65_0) (A4 rfl rfl rfl (AB rfl (kn rfl) off_27_0) (A4 rfl rfl rfl (AI rfl (kn rfl) one_3) (A4 rfl rfl rfl (A6 rfl (kn rfl) (kn rfl) AO) (A9 rfl rfl rfl rfl rfl (Walk.gd _ rfl rfl rfl (fun h=>AW rfl (kn rfl)) (Walk.gd _ rfl rfl rfl (fun h=>AN rfl (A3 rfl h)) (Walk.gd _ rfl rfl rfl (fun h=>AB rfl (A3 rfl h) off_65_0) (Walk.gd _ rfl rfl rfl (fun h=>C1 (vd p.1) 7 rfl (A3 rfl h) agg_27 sz_27 rfl rfl) (Walk.gd _ rfl rfl rfl (fun h=>AW rfl (kn rfl)) (Walk.gd _ rfl rfl rfl (fun h=>AN rfl (A3 rfl h)) (Walk.gd _ rfl rfl rfl (fun h=>AB rfl (A3 rfl h) off_65_0) (Walk.gd _ rfl rfl rfl (fun h=>C1 (vd q.1) 7 rfl (A3 rfl h) agg_27 sz_27 rfl rfl) (Walk.gd _ rfl rfl rfl (fun h=>AE rfl (by kernel_rfl) (GU p.1 h1 q.1 h2) ⟨(A3 rfl h),⟨(A3 rfl h),trivial⟩⟩) (Walk.gd _ rfl rfl rfl (fun h=>A6 rfl (A3 rfl h) (kn rfl) B7) (A4 rfl rfl rfl (AQ rfl (kn rfl) (fun hb=>A3 rfl hb)) (AC rfl rfl rfl rfl rfl .nil)))))))))))))))))))))))) ?_
 try refine A2 ?_
 exact A8 rfl rfl (.tmp (kn rfl) (.nil)) (B4 rfl) rfl
theorem O3(e:Ed)(h1:BH e.old)(h2:BH e.new):EF Try.prog [] 35 [pP (ed e)] (.part (tP (vright e.old&&vright e.new && !CQ e.old e.new))):=by
 refine AH 27 Try.func35 rfl rfl rfl fun w D=>?_
 try refine A2 ?_
 refine C0 0 rfl (Imp.pref_ref _) ?_
 refine A1 (AC rfl rfl rfl rfl rfl .nil) ?_
 try refine A2 ?_
 refine CT C5 (by kernel_rfl) (A9 rfl rfl rfl rfl rfl (A4 rfl rfl rfl (AN rfl (kn rfl)) (A4 rfl rfl rfl (AB rfl (kn rfl) off_32_1) (A4 rfl rfl rfl (C1 (vd e.old) 7 rfl (kn rfl) agg_27 sz_27 rfl rfl) (A4 rfl rfl rfl (AE rfl (by kernel_rfl) (FI e.old h1) ⟨(kn rfl),trivial⟩) (A9 rfl rfl rfl rfl rfl (Walk.gd _ rfl rfl rfl (fun h=>AW rfl (kn rfl)) (Walk.gd _ rfl rfl rfl (fun h=>AN rfl (A3 rfl h)) (Walk.gd _ rfl rfl rfl (fun h=>AB rfl (A3 rfl h) off_32_2) (Walk.gd _ rfl rfl rfl (fun h=>C1 (vd e.new) 7 rfl (A3 rfl h) agg_27 sz_27 rfl rfl) (Walk.gd _ rfl rfl rfl (fun h=>AE rfl (by kernel_rfl) (FI e.new h2) ⟨(A3 rfl h),trivial⟩) (A4 rfl rfl rfl (AQ rfl (kn rfl) (fun hb=>A3 rfl hb)) (A9 rfl rfl rfl rfl rfl (Walk.gd _ rfl rfl rfl (fun h=>AW rfl (kn rfl)) (Walk.gd _ rfl rfl rfl (fun h=>AN rfl (A3 rfl h)) (Walk.gd _ rfl rfl rfl (fun h=>AB rfl (A3 rfl h) off_32_1) (Walk.gd _ rfl rfl rfl (fun h=>C1 (vd e.old) 7 rfl (A3 rfl h) agg_27 sz_27 rfl rfl) (Walk.gd _ rfl rfl rfl (fun h=>AW rfl (kn rfl)) (Walk.gd _ rfl rfl rfl (fun h=>AN rfl (A3 rfl h)) (Walk.gd _ rfl rfl rfl (fun h=>AB rfl (A3 rfl h) off_32_2) (Walk.gd _ rfl rfl rfl (fun h=>C1 (vd e.new) 7 rfl (A3 rfl h) agg_27 sz_27 rfl rfl) (Walk.gd _ rfl rfl rfl (fun h=>AE rfl (by kernel_rfl) (KX e.old e.new h1 h2) ⟨(A3 rfl h),⟨(A3 rfl h),trivial⟩⟩) (Walk.gd _ rfl rfl rfl (fun h=>D1 rfl (A3 rfl h)) (A4 rfl rfl rfl (AQ rfl (kn rfl) (fun hb=>A3 rfl hb)) (AC rfl rfl rfl rfl rfl .nil))))))))))))))))))))))))) ?_
 try refine A2 ?_
 exact A8 rfl rfl (.tmp (kn rfl) (.nil)) (B4 rfl) rfl
theorem M5(e:Ed):EF Try.prog [] 36 [pP (ed e)] (.part (tP (LI e))):=by
 refine AH 28 Try.func36 rfl rfl rfl fun w D=>?_
 try refine A2 ?_
 refine C0 0 rfl (Imp.pref_ref _) ?_
 refine A1 (AC rfl rfl rfl rfl rfl .nil) ?_
 try refine A2 ?_
 refine A1 (A9 rfl rfl rfl rfl rfl (A4 rfl rfl rfl (AN rfl (kn rfl)) (A4 rfl rfl rfl (AB rfl (kn rfl) off_32_4) (A4 rfl rfl rfl (AI rfl (kn rfl) one_4) .nil)))) ?_
 try refine A2 ?_
 refine AA rfl (fun h=>?_) (fun h=>?_)
 ·try refine A2 ?_
  refine CT C5 (by kernel_rfl) (A9 rfl rfl rfl rfl rfl (A4 rfl rfl rfl (AN rfl (kn rfl)) (A4 rfl rfl rfl (AB rfl (kn rfl) off_32_5) (A4 rfl rfl rfl (AI rfl (kn rfl) one_9) (A9 rfl rfl rfl rfl rfl (A4 rfl rfl rfl (AN rfl (kn rfl)) (A4 rfl rfl rfl (AB rfl (kn rfl) off_32_6) (A4 rfl rfl rfl (AI rfl (kn rfl) one_9) (A4 rfl rfl rfl (A6 rfl (kn rfl) (kn rfl) (QM)) (AC rfl rfl rfl rfl rfl .nil)))))))))) ?_
  try refine A2 ?_
  exact A8 rfl rfl (.tmp (kn rfl) (.nil)) (B4 (if_pos h).symm) rfl
 try refine A2 ?_
 refine A1 (A9 rfl rfl rfl rfl rfl (A4 rfl rfl rfl (AN rfl (kn rfl)) (A4 rfl rfl rfl (AB rfl (kn rfl) off_32_5) (A4 rfl rfl rfl (AI rfl (kn rfl) one_9) (A4 rfl rfl rfl (A6 rfl (kn rfl) (kn rfl) (DG (b:=[]))) (A9 rfl rfl rfl rfl rfl (Walk.gd _ rfl rfl rfl (fun h=>AW rfl (kn rfl)) (Walk.gd _ rfl rfl rfl (fun h=>AN rfl (A3 rfl h)) (Walk.gd _ rfl rfl rfl (fun h=>AB rfl (A3 rfl h) off_32_6) (Walk.gd _ rfl rfl rfl (fun h=>AI rfl (A3 rfl h) one_9) (Walk.gd _ rfl rfl rfl (fun h=>A6 rfl (A3 rfl h) (kn rfl) (DG (b:=[]))) (A4 rfl rfl rfl (AQ rfl (kn rfl) (fun hb=>A3 rfl hb)) (AC rfl rfl rfl rfl rfl .nil))))))))))))) ?_
 try refine A2 ?_
 exact A8 rfl rfl (.tmp (kn rfl) (.nil)) (B4 (if_neg (by rw[h];decide)).symm) rfl
theorem RN{α:Type}(l:List α):decide ((0:Int)<(l.length:Int)) = !l.isEmpty:=by
 cases l with
 | nil=>rfl
 | cons x l=>exact decide_eq_true (by simp only[List.length_cons];omega)
set_option maxHeartbeats 1000000 in
theorem PP(e:Ed)(hs:e.Sm)(ih:∀ x∈e.kids,ERt x):ERt e:=by
 unfold ERt
 have hl:=hs.lens
 obtain⟨_,o1,o2,_,_,_,h3,h4⟩:=hs.ok.all
 have s1:=o1.short (by decide)
 have s2:=o2.short (by decide)
 have hk:∀ x∈e.kids,BH x.old/\BH x.new:=fun x hx=>by
  obtain⟨_,a,b,_⟩:=(hs.kid hx).ok.all
  exact⟨a.short (by decide),b.short (by decide)⟩
 have q:=DV e
 refine AH 70 Try.func20 rfl rfl rfl fun w D=>?_
 try refine A2 ?_
 refine C0 0 rfl (Imp.pref_ref _) ?_
 refine A1 (AC rfl rfl rfl rfl rfl .nil) ?_
 try refine A2 ?_
 refine A1 (A9 rfl rfl rfl rfl rfl (A4 rfl rfl rfl (AE rfl (by kernel_rfl) (PL e s1 s2) ⟨CU (kn rfl) (Imp.ref_pref _),trivial⟩) (A4 rfl rfl rfl (D1 rfl (kn rfl)) .nil))) ?_
 try refine A2 ?_
 refine AA rfl (fun b=>?_) (fun b=>?_)
 ·rw[W6 b,Bool.false_and]at q
  try refine A2 ?_
  refine A1 (AC rfl rfl rfl rfl rfl .nil) ?_
  try refine A2 ?_
  exact A8 rfl rfl (.tmp (kn rfl) (.nil)) (B4 q.symm) rfl
 rw[W2 b,Bool.true_and]at q
 try refine A2 ?_
 refine A1 (A9 rfl rfl rfl rfl rfl (A4 rfl rfl rfl (AN rfl (kn rfl)) (A4 rfl rfl rfl (AB rfl (kn rfl) off_32_0) (A4 rfl rfl rfl (AI rfl (kn rfl) one_3) .nil)))) ?_
 try refine A2 ?_
 try refine A2 ?_
 refine A1 (A4 rfl rfl rfl (A6 rfl (kn rfl) (kn rfl) AO) (AC rfl rfl rfl rfl rfl .nil)) ?_
 try refine A2 ?_
 refine AA rfl (fun c=>?_) (fun c=>?_)
 ·rw[if_pos (of_decide_eq_true c)]at q
  try refine A2 ?_
  refine A1 (AC rfl rfl rfl rfl rfl .nil) ?_
  try refine A2 ?_
  exact A8 rfl rfl (.tmp (kn rfl) (.nil)) (B4 q.symm) rfl
 rw[if_neg (of_decide_eq_false c)]at q
 try refine A2 ?_
 refine A1 (A4 rfl rfl rfl (A6 rfl (kn rfl) (kn rfl) AO) (AC rfl rfl rfl rfl rfl .nil)) ?_
 try refine A2 ?_
 refine AA rfl (fun c=>?_) (fun c=>?_)
 ·rw[if_pos (of_decide_eq_true c)]at q
  try refine A2 ?_
  refine A1 (A9 rfl rfl rfl rfl rfl (A4 rfl rfl rfl (AE rfl (by kernel_rfl) (O3 e s1 s2) ⟨CU (kn rfl) (Imp.ref_pref _),trivial⟩) (AC rfl rfl rfl rfl rfl .nil))) ?_
  try refine A2 ?_
  exact A8 rfl rfl (.tmp (kn rfl) (.nil)) (B4 q.symm) rfl
 rw[if_neg (of_decide_eq_false c)]at q
 try refine A2 ?_
 refine A1 (A4 rfl rfl rfl (A6 rfl (kn rfl) (kn rfl) AO) (AC rfl rfl rfl rfl rfl .nil)) ?_
 try refine A2 ?_
 refine AA rfl (fun c=>?_) (fun c=>?_)
 ·rw[if_pos (of_decide_eq_true c),<- RN]at q
  try refine A2 ?_
  refine A1 (A9 rfl rfl rfl rfl rfl (A4 rfl rfl rfl (AE rfl (by kernel_rfl) (M5 e) ⟨CU (kn rfl) (Imp.ref_pref _),trivial⟩) (A9 rfl rfl rfl rfl rfl (Walk.gd _ rfl rfl rfl (fun h=>AW rfl (kn rfl)) (Walk.gd _ rfl rfl rfl (fun h=>AN rfl (A3 rfl h)) (Walk.gd _ rfl rfl rfl (fun h=>AB rfl (A3 rfl h) off_32_4) (Walk.gd _ rfl rfl rfl (fun h=>AI rfl (A3 rfl h) one_4) (Walk.gd _ rfl rfl rfl (fun h=>AW rfl (A3 rfl h)) (Walk.gd _ rfl rfl rfl (fun h=>AW rfl (kn rfl)) (Walk.gd _ rfl rfl rfl (fun h=>AN rfl (A3 rfl h)) (Walk.gd _ rfl rfl rfl (fun h=>AB rfl (A3 rfl h) off_32_3) (Walk.gd _ rfl rfl rfl (fun h=>AI rfl (A3 rfl h) one_28) (Walk.gd _ rfl rfl rfl (fun h=>AT rfl (A3 rfl h) sle_28) (Walk.gd _ rfl rfl rfl (fun h=>A6 rfl (A3 rfl h) (kn rfl) D7) (Walk.gd _ rfl rfl rfl (fun h=>DI rfl (A3 rfl h) (fun hb=>A3 rfl (gb h hb))) (A4 rfl rfl rfl (AQ rfl (kn rfl) (fun hb=>A3 rfl hb)) (A9 rfl rfl rfl rfl rfl (Walk.gd _ rfl rfl rfl (fun h=>AW rfl (kn rfl)) (Walk.gd _ rfl rfl rfl (fun h=>AN rfl (A3 rfl h)) (Walk.gd _ rfl rfl rfl (fun h=>AB rfl (A3 rfl h) off_32_3) (Walk.gd _ rfl rfl rfl (fun h=>AI rfl (A3 rfl h) one_28) (Walk.gd _ rfl rfl rfl (fun h=>AE rfl (by kernel_rfl) (SQ 38 39 (by kernel_rfl) (by kernel_rfl) e.fields (by omega) HT FA (fun x hx=>M8 x (ih _ (Ed.kid_f hx))) (fun x _ y _=>M4 x y)) ⟨(A3 rfl h),⟨(kn rfl),⟨(kn rfl),trivial⟩⟩⟩) (A4 rfl rfl rfl (AQ rfl (kn rfl) (fun hb=>A3 rfl hb)) (AC rfl rfl rfl rfl rfl .nil)))))))))))))))))))))))) ?_
  try refine A2 ?_
  exact A8 rfl rfl (.tmp (kn rfl) (.nil)) (B4 q.symm) rfl
 rw[if_neg (of_decide_eq_false c)]at q
 try refine A2 ?_
 refine A1 (A4 rfl rfl rfl (A6 rfl (kn rfl) (kn rfl) AO) (AC rfl rfl rfl rfl rfl .nil)) ?_
 try refine A2 ?_
 refine AA rfl (fun c=>?_) (fun c=>?_)
 ·rw[if_pos (of_decide_eq_true c)]at q
  try refine A2 ?_
  refine A1 (A9 rfl rfl rfl rfl rfl (A4 rfl rfl rfl (AN rfl (kn rfl)) (A4 rfl rfl rfl (AB rfl (kn rfl) off_32_7) (A4 rfl rfl rfl (AI rfl (kn rfl) one_29) (A4 rfl rfl rfl (AE rfl (by kernel_rfl) (W9 41 (by kernel_rfl) e.steps (by omega) JE (fun x _=>SH x)) ⟨(kn rfl),⟨(kn rfl),trivial⟩⟩) (A9 rfl rfl rfl rfl rfl (Walk.gd _ rfl rfl rfl (fun h=>AW rfl (kn rfl)) (Walk.gd _ rfl rfl rfl (fun h=>AN rfl (A3 rfl h)) (Walk.gd _ rfl rfl rfl (fun h=>AB rfl (A3 rfl h) off_32_7) (Walk.gd _ rfl rfl rfl (fun h=>AI rfl (A3 rfl h) one_29) (Walk.gd _ rfl rfl rfl (fun h=>AE rfl (by kernel_rfl) (S9 43 44 (by kernel_rfl) (by kernel_rfl) e.steps (by omega) C2 CH (fun x hx=>OC x ((h3 x hx).2.2.2.short (by decide)) (hk _ (Ed.kid_s hx)).1 (hk _ (Ed.kid_s hx)).2 (ih _ (Ed.kid_s hx))) (fun x _ y _=>NZ x y)) ⟨(A3 rfl h),⟨(kn rfl),⟨(kn rfl),trivial⟩⟩⟩) (A4 rfl rfl rfl (AQ rfl (kn rfl) (fun hb=>A3 rfl hb)) (AC rfl rfl rfl rfl rfl .nil))))))))))))) ?_
  try refine A2 ?_
  exact A8 rfl rfl (.tmp (kn rfl) (.nil)) (B4 q.symm) rfl
 rw[if_neg (of_decide_eq_false c)]at q
 try refine A2 ?_
 refine A1 (A4 rfl rfl rfl (A6 rfl (kn rfl) (kn rfl) AO) (AC rfl rfl rfl rfl rfl .nil)) ?_
 try refine A2 ?_
 refine AA rfl (fun c=>?_) (fun c=>?_)
 ·rw[if_pos (of_decide_eq_true c),<- RN]at q
  try refine A2 ?_
  refine A1 (A9 rfl rfl rfl rfl rfl (A4 rfl rfl rfl (AN rfl (kn rfl)) (A4 rfl rfl rfl (AB rfl (kn rfl) off_32_8) (A4 rfl rfl rfl (AI rfl (kn rfl) one_30) (A4 rfl rfl rfl (AT rfl (kn rfl) sle_30) (A4 rfl rfl rfl (A6 rfl (kn rfl) (kn rfl) D7) (A9 rfl rfl rfl rfl rfl (Walk.gd _ rfl rfl rfl (fun h=>AW rfl (kn rfl)) (Walk.gd _ rfl rfl rfl (fun h=>AN rfl (A3 rfl h)) (Walk.gd _ rfl rfl rfl (fun h=>AB rfl (A3 rfl h) off_32_8) (Walk.gd _ rfl rfl rfl (fun h=>AI rfl (A3 rfl h) one_30) (Walk.gd _ rfl rfl rfl (fun h=>AE rfl (by kernel_rfl) (SR 46 47 (by kernel_rfl) (by kernel_rfl) e.keys (by omega) R5 JQ (fun x hx=>OH x ((h4 x hx).short (by decide)) (ih _ (Ed.kid_k hx))) (fun x hx y hy=>PE x y ((h4 x hx).short (by decide)) ((h4 y hy).short (by decide)))) ⟨(A3 rfl h),⟨(kn rfl),⟨(kn rfl),trivial⟩⟩⟩) (A4 rfl rfl rfl (AQ rfl (kn rfl) (fun hb=>A3 rfl hb)) (AC rfl rfl rfl rfl rfl .nil)))))))))))))) ?_
  try refine A2 ?_
  exact A8 rfl rfl (.tmp (kn rfl) (.nil)) (B4 q.symm) rfl
 rw[if_neg (of_decide_eq_false c)]at q
 try refine A2 ?_
 refine A1 (AC rfl rfl rfl rfl rfl .nil) ?_
 try refine A2 ?_
 exact A8 rfl rfl (.tmp (kn rfl) (.nil)) (B4 q.symm) rfl
theorem W7(e:Ed):e.Sm->ERt e:=Ed.kids_ind (P:=fun e=>e.Sm->ERt e) (fun e ih h=>PP e h fun x hx=>ih x hx (h.kid hx)) e
theorem MF(e:Ed)(hs:e.Sm):EF Try.prog [] 8 [.many (ed e)] (.part (tP (B3 e))):=by
 refine AH 4 Try.func8 rfl rfl rfl fun w D=>?_
 try refine A2 ?_
 refine AF ?_
 refine BX 1 rfl rfl rfl rfl (kn rfl) rfl rfl rfl rfl ?_
 refine BY ?_
 refine AD ?_
 try refine A2 ?_
 refine U8 1 1 rfl rfl rfl ?_
 refine C0 1 rfl ((Imp.ptr_ref _ _).trans (Imp.ref_pref _)) ?_
 refine A1 (A4 rfl rfl rfl (AE rfl (by kernel_rfl) (W7 e hs) ⟨(kn rfl),trivial⟩) (AC rfl rfl rfl rfl rfl .nil)) ?_
 try refine A2 ?_
 exact A8 rfl rfl (.tmp (kn rfl) (.nil)) (Imp.of_eq rfl) rfl
theorem Ed.Sm.short{e:Ed}(h:e.Sm):BH e.old/\BH e.new:=by
 obtain⟨_,a,b,_⟩:=h.ok.all
 exact⟨a.short (by decide),b.short (by decide)⟩
theorem UD{P:Program}{f:FuncId}{ps:List Part}{v:Value}{w:World}{vs:List Value}(h:EF P [] f ps (.is v))(hp:PsFit w (Old w) ps vs):Calls P f vs.toArray w fun e w'=>e=.returned v/\Below w.heap.size w w':=
 (h w (Old w) vs (fun g hg=>hg) (fun _ _ h=>by cases h) hp).mono fun e w' ⟨u,y,h1,h2,h3,h4⟩=>by
  subst h2
  refine⟨?_,h3⟩
  rw[h1,VR.is_eq (h4 (fun _=>0) (fun _=>undef))]
theorem OI(k:Int)(n:Nat)(h1 : -9223372036854775808<=k)(h2:k<9223372036854775808)(h3:n<18446744073709551616):VSm 80 (.mk k n [] [] [] [] []):=
 ⟨(N0 k n h1 h2 h3).fine,(N0 k n h1 h2 h3).tx,by rw[CB];simp[Vl.list,Vl.fields,Vl.pairs,lnodes,fnodes,pnodes]⟩
theorem Q5(k:Int)(o n:Vl)(hk:I64 k)(ho:VSm 80 o)(hn:VSm 80 n):(Ed.mk k o n [] false [] [] [] []).Sm:=
 ⟨.mk _ hk ho hn (Nat.zero_le _) (Nat.zero_le _) (fun _ h=>by cases h) (fun _ h=>by cases h) (fun _ h=>by cases h) (fun _ h=>by cases h),by rw[DF];simp[Ed.fields,Ed.steps,Ed.keys]⟩
theorem Q4(a b:Vl):B3 (.mk 1 a b [] false [] [] [] [])=(vright a&&vright b && !CQ a b):=by
 rw[DV]
 simp[EA,Ed.kind,Ed.old,Ed.new,Ed.fields,Ed.rests,Ed.ro,Ed.rn,Ed.steps,Ed.keys]
theorem QH(n:Nat):vright (WQ n)=true:=by simp[WQ,vright,fright,lright,pright,vplain,Vl.kind,Vl.num,Vl.text,Vl.fields,Vl.rest,Vl.list,Vl.pairs]
end Go.Proofs.Ytecfdcdkkgmkpaa
