/- Part 18. Conditions: as each theorem says. -/
import Derived.Test.YtojdpgeeajaojaaES17
import Derived.Test.YtojdpgeeajaojaaProg
set_option maxRecDepth 100000
namespace Go.Proofs.Ytojdpgeeajaojaa
open Go.RowKit
theorem Q1{a b:Int}(h:a=b):Imp (GE [.one (.cell (.int .i64 a))]) (.part (iP b)):=Imp.of_eq (by rw[h];rfl)
theorem Ed.Sm.short{e:Ed}(h:e.Sm):AU e.old/\AU e.new:=by
 obtain⟨_,a,b,_⟩:=h.ok.all
 exact⟨a.short (by decide),b.short (by decide)⟩
def ESz(e:Ed):Prop:=EF Try.prog [] 24 [pP (ed e)] (.part (iP (BY e)))
theorem N3(e:Ed)(hs:e.Sm):EF Try.prog [] 61 [pP (ed e)] (.part (iP ((vsize e.old:Int)+(vsize e.new:Int)))):=by
 obtain⟨_,o1,o2,_⟩:=hs.ok.all
 have a1:=CO o1
 have a2:=CO o2
 refine AF 14 Try.func61 rfl rfl rfl fun w D=>?_
 try refine A2 ?_
 refine B2 0 rfl (Imp.pref_ref _) ?_
 refine A0 (AD rfl rfl rfl rfl rfl .nil) ?_
 try refine A2 ?_
 refine BO C0 (by kernel_rfl) (A8 rfl rfl rfl rfl rfl (A3 rfl rfl rfl (AA rfl (kn rfl)) (A3 rfl rfl rfl (A5 rfl (kn rfl) off_35_1) (A3 rfl rfl rfl (AQ (vd e.old) 7 rfl (kn rfl) agg_27 sz_27 rfl rfl) (A3 rfl rfl rfl (AG rfl (by kernel_rfl) (F9 e.old hs.short.1) ⟨(kn rfl),trivial⟩) (A8 rfl rfl rfl rfl rfl (A3 rfl rfl rfl (AA rfl (kn rfl)) (A3 rfl rfl rfl (A5 rfl (kn rfl) off_35_2) (A3 rfl rfl rfl (AQ (vd e.new) 7 rfl (kn rfl) agg_27 sz_27 rfl rfl) (A3 rfl rfl rfl (AG rfl (by kernel_rfl) (F9 e.new hs.short.2) ⟨(kn rfl),trivial⟩) (A3 rfl rfl rfl (A9 rfl (kn rfl) (kn rfl) (AM (by first | omega | (dsimp only;omega)))) (AD rfl rfl rfl rfl rfl .nil)))))))))))) ?_
 try refine A2 ?_
 exact A7 rfl rfl (.tmp (kn rfl) (.nil)) (Imp.of_eq rfl) rfl
theorem JH(p:Int×Ed)(hE:ESz p.2):EF Try.prog [] 63 [pP (efd p)] (.part (iP (BY p.2))):=by
 refine AF 7 Try.func63 rfl rfl rfl fun w D=>?_
 try refine A2 ?_
 refine B2 0 rfl (Imp.pref_ref _) ?_
 refine A0 (AD rfl rfl rfl rfl rfl .nil) ?_
 try refine A2 ?_
 refine A0 (A8 rfl rfl rfl rfl rfl (A3 rfl rfl rfl (AA rfl (kn rfl)) (A3 rfl rfl rfl (A5 rfl (kn rfl) off_65_1) (A3 rfl rfl rfl (AG rfl (by kernel_rfl) (hE) ⟨AW (kn rfl) (Imp.ref_pref _),trivial⟩) (AD rfl rfl rfl rfl rfl .nil))))) ?_
 try refine A2 ?_
 exact A7 rfl rfl (.tmp (kn rfl) (.nil)) (Imp.of_eq rfl) rfl
theorem K3(p:(Int×Int×Vl)×Ed)(hv:VSm 80 p.1.2.2)(hb:BY p.2<=100000)(hE:ESz p.2):EF Try.prog [] 65 [pP (esd p)] (.part (iP ((1+vsize p.1.2.2+BY p.2:Nat):Int))):=by
 have a1:=CO hv
 refine AF 14 Try.func65 rfl rfl rfl fun w D=>?_
 try refine A2 ?_
 refine B2 0 rfl (Imp.pref_ref _) ?_
 refine A0 (AD rfl rfl rfl rfl rfl .nil) ?_
 try refine A2 ?_
 refine BO C0 (by kernel_rfl) (A8 rfl rfl rfl rfl rfl (A3 rfl rfl rfl (AA rfl (kn rfl)) (A3 rfl rfl rfl (A5 rfl (kn rfl) off_71_2) (A3 rfl rfl rfl (AQ (vd p.1.2.2) 7 rfl (kn rfl) agg_27 sz_27 rfl rfl) (A3 rfl rfl rfl (AG rfl (by kernel_rfl) (F9 p.1.2.2 (hv.short (by decide))) ⟨(kn rfl),trivial⟩) (A3 rfl rfl rfl (A9 rfl (kn rfl) (kn rfl) (AM (by first | omega | (dsimp only;omega)))) (A8 rfl rfl rfl rfl rfl (A3 rfl rfl rfl (AA rfl (kn rfl)) (A3 rfl rfl rfl (A5 rfl (kn rfl) off_71_3) (A3 rfl rfl rfl (AG rfl (by kernel_rfl) (hE) ⟨AW (kn rfl) (Imp.ref_pref _),trivial⟩) (A3 rfl rfl rfl (A9 rfl (kn rfl) (kn rfl) (AM (by first | omega | (dsimp only;omega)))) (AD rfl rfl rfl rfl rfl .nil)))))))))))) ?_
 try refine A2 ?_
 exact A7 rfl rfl (.tmp (kn rfl) (.nil)) (Imp.of_eq (by congr 4)) rfl
theorem M4(p:Vl×Ed)(hv:VSm 20 p.1)(hb:BY p.2<=100000)(hE:ESz p.2):EF Try.prog [] 67 [pP (ekd p)] (.part (iP ((vsize p.1+BY p.2:Nat):Int))):=by
 have a1:=CO hv
 refine AF 13 Try.func67 rfl rfl rfl fun w D=>?_
 try refine A2 ?_
 refine B2 0 rfl (Imp.pref_ref _) ?_
 refine A0 (AD rfl rfl rfl rfl rfl .nil) ?_
 try refine A2 ?_
 refine BO C0 (by kernel_rfl) (A8 rfl rfl rfl rfl rfl (A3 rfl rfl rfl (AA rfl (kn rfl)) (A3 rfl rfl rfl (A5 rfl (kn rfl) off_78_0) (A3 rfl rfl rfl (AQ (vd p.1) 7 rfl (kn rfl) agg_27 sz_27 rfl rfl) (A3 rfl rfl rfl (AG rfl (by kernel_rfl) (F9 p.1 (hv.short (by decide))) ⟨(kn rfl),trivial⟩) (A8 rfl rfl rfl rfl rfl (A3 rfl rfl rfl (AA rfl (kn rfl)) (A3 rfl rfl rfl (A5 rfl (kn rfl) off_78_1) (A3 rfl rfl rfl (AG rfl (by kernel_rfl) (hE) ⟨AW (kn rfl) (Imp.ref_pref _),trivial⟩) (A3 rfl rfl rfl (A9 rfl (kn rfl) (kn rfl) (AM (by first | omega | (dsimp only;omega)))) (AD rfl rfl rfl rfl rfl .nil))))))))))) ?_
 try refine A2 ?_
 exact A7 rfl rfl (.tmp (kn rfl) (.nil)) (Imp.of_eq (by congr 4)) rfl
set_option maxHeartbeats 1000000 in
theorem OF(e:Ed)(hs:e.Sm)(ih:∀ x∈e.kids,ESz x):ESz e:=by
 unfold ESz
 have hl:=hs.lens
 have hb:=hs.bounds.1
 obtain⟨_,o1,o2,_,_,_,h3,h4⟩:=hs.ok.all
 have hk:∀ x∈e.kids,BY x<=100000:=fun x hx=>by have:=(hs.kid hx).bounds.1;omega
 have q:=HE e
 refine AF 29 Try.func24 rfl rfl rfl fun w D=>?_
 try refine A2 ?_
 refine B2 0 rfl (Imp.pref_ref _) ?_
 refine A0 (AD rfl rfl rfl rfl rfl .nil) ?_
 try refine A2 ?_
 refine A0 (A8 rfl rfl rfl rfl rfl (A3 rfl rfl rfl (AA rfl (kn rfl)) (A3 rfl rfl rfl (A5 rfl (kn rfl) off_35_0) (A3 rfl rfl rfl (AC rfl (kn rfl) one_3) (A3 rfl rfl rfl (A9 rfl (kn rfl) (kn rfl) AK) .nil))))) ?_
 try refine A2 ?_
 refine AE rfl (fun c=>?_) (fun c=>?_)
 ·rw[if_pos (of_decide_eq_true c)]at q
  try refine A2 ?_
  refine A0 (AD rfl rfl rfl rfl rfl .nil) ?_
  try refine A2 ?_
  exact A7 rfl rfl (.tmp (kn rfl) (.nil)) (Imp.of_eq (by rw[q];rfl)) rfl
 rw[if_neg (of_decide_eq_false c)]at q
 try refine A2 ?_
 refine BO C0 (by kernel_rfl) (A8 rfl rfl rfl rfl rfl (A3 rfl rfl rfl (AG rfl (by kernel_rfl) (N3 e hs) ⟨AW (kn rfl) (Imp.ref_pref _),trivial⟩) (A3 rfl rfl rfl (A9 rfl (kn rfl) (kn rfl) (AM (by first | omega | (dsimp only;omega)))) (A8 rfl rfl rfl rfl rfl (A3 rfl rfl rfl (AA rfl (kn rfl)) (A3 rfl rfl rfl (A5 rfl (kn rfl) off_35_3) (A3 rfl rfl rfl (AC rfl (kn rfl) one_31) (A3 rfl rfl rfl (AG rfl (by kernel_rfl) (NQ 63 (by kernel_rfl) e.fields (by omega) (fun p=>BY p.2) (by omega) (fun x hx=>JH x (ih _ (Ed.kid_f hx)))) ⟨(kn rfl),⟨(kn rfl),trivial⟩⟩) (A3 rfl rfl rfl (A9 rfl (kn rfl) (kn rfl) (AM (by first | omega | (dsimp only;omega)))) (A8 rfl rfl rfl rfl rfl (A3 rfl rfl rfl (AA rfl (kn rfl)) (A3 rfl rfl rfl (A5 rfl (kn rfl) off_35_7) (A3 rfl rfl rfl (AC rfl (kn rfl) one_32) (A3 rfl rfl rfl (AG rfl (by kernel_rfl) (NH 65 (by kernel_rfl) e.steps (by omega) (fun s=>1+vsize s.1.2.2+BY s.2) (by omega) (fun x hx=>K3 x (h3 x hx).2.2.2 (hk _ (Ed.kid_s hx)) (ih _ (Ed.kid_s hx)))) ⟨(kn rfl),⟨(kn rfl),trivial⟩⟩) (A3 rfl rfl rfl (A9 rfl (kn rfl) (kn rfl) (AM (by first | omega | (dsimp only;omega)))) (A8 rfl rfl rfl rfl rfl (A3 rfl rfl rfl (AA rfl (kn rfl)) (A3 rfl rfl rfl (A5 rfl (kn rfl) off_35_8) (A3 rfl rfl rfl (AC rfl (kn rfl) one_33) (A3 rfl rfl rfl (AG rfl (by kernel_rfl) (NS 67 (by kernel_rfl) e.keys (by omega) (fun s=>vsize s.1+BY s.2) (by omega) (fun x hx=>M4 x (h4 x hx) (hk _ (Ed.kid_k hx)) (ih _ (Ed.kid_k hx)))) ⟨(kn rfl),⟨(kn rfl),trivial⟩⟩) (A3 rfl rfl rfl (A9 rfl (kn rfl) (kn rfl) (AM (by first | omega | (dsimp only;omega)))) (AD rfl rfl rfl rfl rfl .nil)))))))))))))))))))))) ?_
 try refine A2 ?_
 exact A7 rfl rfl (.tmp (kn rfl) (.nil)) (Q1 (by rw[q];push_cast;omega)) rfl
theorem PL(e:Ed):e.Sm->ESz e:=Ed.kids_ind (P:=fun e=>e.Sm->ESz e) (fun e ih h=>OF e h fun x hx=>ih x hx (h.kid hx)) e
theorem MX(e:Ed)(hs:e.Sm):EF Try.prog [] 11 [.many (ed e)] (.part (iP (BY e))):=by
 refine AF 4 Try.func11 rfl rfl rfl fun w D=>?_
 try refine A2 ?_
 refine AI ?_
 refine BB 1 rfl rfl rfl rfl (kn rfl) rfl rfl rfl rfl ?_
 refine CM ?_
 refine AN ?_
 try refine A2 ?_
 refine HA 1 1 rfl rfl rfl ?_
 refine B2 1 rfl ((Imp.ptr_ref _ _).trans (Imp.ref_pref _)) ?_
 refine A0 (A3 rfl rfl rfl (AG rfl (by kernel_rfl) (PL e hs) ⟨(kn rfl),trivial⟩) (AD rfl rfl rfl rfl rfl .nil)) ?_
 try refine A2 ?_
 exact A7 rfl rfl (.tmp (kn rfl) (.nil)) (Imp.of_eq rfl) rfl
def EEq(a:Ed):Prop:=∀ b:Ed,b.Sm->EF Try.prog [] 23 [pP (ed a),pP (ed b)] (.part (tP (eeq a b)))
set_option maxHeartbeats 1000000 in
theorem N1(a b:Ed)(ha:a.Sm)(hb:b.Sm):EF Try.prog [] 54 [pP (ed a),pP (ed b)] (.part (tP (H2 a b))):=by
 refine AF 69 Try.func54 rfl rfl rfl fun w D=>?_
 try refine A2 ?_
 refine B2 0 rfl (Imp.pref_ref _) ?_
 refine B2 1 rfl (Imp.pref_ref _) ?_
 refine A0 (AD rfl rfl rfl rfl rfl .nil) ?_
 try refine A2 ?_
 refine BO C0 (by kernel_rfl) (A8 rfl rfl rfl rfl rfl (A3 rfl rfl rfl (AA rfl (kn rfl)) (A3 rfl rfl rfl (A5 rfl (kn rfl) off_35_0) (A3 rfl rfl rfl (AC rfl (kn rfl) one_3) (A8 rfl rfl rfl rfl rfl (A3 rfl rfl rfl (AA rfl (kn rfl)) (A3 rfl rfl rfl (A5 rfl (kn rfl) off_35_0) (A3 rfl rfl rfl (AC rfl (kn rfl) one_3) (A3 rfl rfl rfl (A9 rfl (kn rfl) (kn rfl) AK) (A8 rfl rfl rfl rfl rfl (Walk.gd _ rfl rfl rfl (fun h=>AH rfl (kn rfl)) (Walk.gd _ rfl rfl rfl (fun h=>AA rfl (A1 rfl h)) (Walk.gd _ rfl rfl rfl (fun h=>A5 rfl (A1 rfl h) off_35_1) (Walk.gd _ rfl rfl rfl (fun h=>AQ (vd a.old) 7 rfl (A1 rfl h) agg_27 sz_27 rfl rfl) (Walk.gd _ rfl rfl rfl (fun h=>AH rfl (kn rfl)) (Walk.gd _ rfl rfl rfl (fun h=>AA rfl (A1 rfl h)) (Walk.gd _ rfl rfl rfl (fun h=>A5 rfl (A1 rfl h) off_35_1) (Walk.gd _ rfl rfl rfl (fun h=>AQ (vd b.old) 7 rfl (A1 rfl h) agg_27 sz_27 rfl rfl) (Walk.gd _ rfl rfl rfl (fun h=>AG rfl (by kernel_rfl) (C6 a.old b.old ha.short.1 hb.short.1) ⟨(A1 rfl h),⟨(A1 rfl h),trivial⟩⟩) (A3 rfl rfl rfl (AJ rfl (kn rfl) (fun hb=>A1 rfl hb)) (A8 rfl rfl rfl rfl rfl (Walk.gd _ rfl rfl rfl (fun h=>AH rfl (kn rfl)) (Walk.gd _ rfl rfl rfl (fun h=>AA rfl (A1 rfl h)) (Walk.gd _ rfl rfl rfl (fun h=>A5 rfl (A1 rfl h) off_35_2) (Walk.gd _ rfl rfl rfl (fun h=>AQ (vd a.new) 7 rfl (A1 rfl h) agg_27 sz_27 rfl rfl) (Walk.gd _ rfl rfl rfl (fun h=>AH rfl (kn rfl)) (Walk.gd _ rfl rfl rfl (fun h=>AA rfl (A1 rfl h)) (Walk.gd _ rfl rfl rfl (fun h=>A5 rfl (A1 rfl h) off_35_2) (Walk.gd _ rfl rfl rfl (fun h=>AQ (vd b.new) 7 rfl (A1 rfl h) agg_27 sz_27 rfl rfl) (Walk.gd _ rfl rfl rfl (fun h=>AG rfl (by kernel_rfl) (C6 a.new b.new ha.short.2 hb.short.2) ⟨(A1 rfl h),⟨(A1 rfl h),trivial⟩⟩) (A3 rfl rfl rfl (AJ rfl (kn rfl) (fun hb=>A1 rfl hb)) (A8 rfl rfl rfl rfl rfl (Walk.gd _ rfl rfl rfl (fun h=>AH rfl (kn rfl)) (Walk.gd _ rfl rfl rfl (fun h=>AA rfl (A1 rfl h)) (Walk.gd _ rfl rfl rfl (fun h=>A5 rfl (A1 rfl h) off_35_4) (Walk.gd _ rfl rfl rfl (fun h=>AC rfl (A1 rfl h) one_4) (Walk.gd _ rfl rfl rfl (fun h=>AH rfl (kn rfl)) (Walk.gd _ rfl rfl rfl (fun h=>AA rfl (A1 rfl h)) (Walk.gd _ rfl rfl rfl (fun h=>A5 rfl (A1 rfl h) off_35_4) (Walk.gd _ rfl rfl rfl (fun h=>AC rfl (A1 rfl h) one_4) (Walk.gd _ rfl rfl rfl (fun h=>A9 rfl (A1 rfl h) (A1 rfl h) (PZ bool_4)) (A3 rfl rfl rfl (AJ rfl (kn rfl) (fun hb=>A1 rfl hb)) (A8 rfl rfl rfl rfl rfl (Walk.gd _ rfl rfl rfl (fun h=>AH rfl (kn rfl)) (Walk.gd _ rfl rfl rfl (fun h=>AA rfl (A1 rfl h)) (Walk.gd _ rfl rfl rfl (fun h=>A5 rfl (A1 rfl h) off_35_5) (Walk.gd _ rfl rfl rfl (fun h=>AC rfl (A1 rfl h) one_9) (Walk.gd _ rfl rfl rfl (fun h=>AH rfl (kn rfl)) (Walk.gd _ rfl rfl rfl (fun h=>AA rfl (A1 rfl h)) (Walk.gd _ rfl rfl rfl (fun h=>A5 rfl (A1 rfl h) off_35_5) (Walk.gd _ rfl rfl rfl (fun h=>AC rfl (A1 rfl h) one_9) (Walk.gd _ rfl rfl rfl (fun h=>A9 rfl (A1 rfl h) (A1 rfl h) (BW)) (A3 rfl rfl rfl (AJ rfl (kn rfl) (fun hb=>A1 rfl hb)) (A8 rfl rfl rfl rfl rfl (Walk.gd _ rfl rfl rfl (fun h=>AH rfl (kn rfl)) (Walk.gd _ rfl rfl rfl (fun h=>AA rfl (A1 rfl h)) (Walk.gd _ rfl rfl rfl (fun h=>A5 rfl (A1 rfl h) off_35_6) (Walk.gd _ rfl rfl rfl (fun h=>AC rfl (A1 rfl h) one_9) (Walk.gd _ rfl rfl rfl (fun h=>AH rfl (kn rfl)) (Walk.gd _ rfl rfl rfl (fun h=>AA rfl (A1 rfl h)) (Walk.gd _ rfl rfl rfl (fun h=>A5 rfl (A1 rfl h) off_35_6) (Walk.gd _ rfl rfl rfl (fun h=>AC rfl (A1 rfl h) one_9) (Walk.gd _ rfl rfl rfl (fun h=>A9 rfl (A1 rfl h) (A1 rfl h) (BW)) (A3 rfl rfl rfl (AJ rfl (kn rfl) (fun hb=>A1 rfl hb)) (AD rfl rfl rfl rfl rfl .nil))))))))))))))))))))))))))))))))))))))))))))))))))))))))))))))))) ?_
 try refine A2 ?_
 exact A7 rfl rfl (.tmp (kn rfl) (.nil)) (AL rfl) rfl
theorem LC(p q:Int×Ed)(hq:q.2.Sm)(hE:EEq p.2):EF Try.prog [] 56 [pP (efd p),pP (efd q)] (.part (tP (JJ p q))):=by
 refine AF 23 Try.func56 rfl rfl rfl fun w D=>?_
 try refine A2 ?_
 refine B2 0 rfl (Imp.pref_ref _) ?_
 refine B2 1 rfl (Imp.pref_ref _) ?_
 refine A0 (AD rfl rfl rfl rfl rfl .nil) ?_
 try refine A2 ?_
 refine BO C0 (by kernel_rfl) (A8 rfl rfl rfl rfl rfl (A3 rfl rfl rfl (AA rfl (kn rfl)) (A3 rfl rfl rfl (A5 rfl (kn rfl) off_65_0) (A3 rfl rfl rfl (AC rfl (kn rfl) one_3) (A8 rfl rfl rfl rfl rfl (A3 rfl rfl rfl (AA rfl (kn rfl)) (A3 rfl rfl rfl (A5 rfl (kn rfl) off_65_0) (A3 rfl rfl rfl (AC rfl (kn rfl) one_3) (A3 rfl rfl rfl (A9 rfl (kn rfl) (kn rfl) AK) (A8 rfl rfl rfl rfl rfl (Walk.gd _ rfl rfl rfl (fun h=>AH rfl (kn rfl)) (Walk.gd _ rfl rfl rfl (fun h=>AA rfl (A1 rfl h)) (Walk.gd _ rfl rfl rfl (fun h=>A5 rfl (A1 rfl h) off_65_1) (Walk.gd _ rfl rfl rfl (fun h=>AH rfl (kn rfl)) (Walk.gd _ rfl rfl rfl (fun h=>AA rfl (A1 rfl h)) (Walk.gd _ rfl rfl rfl (fun h=>A5 rfl (A1 rfl h) off_65_1) (Walk.gd _ rfl rfl rfl (fun h=>AG rfl (by kernel_rfl) (hE q.2 hq) ⟨AW (A1 rfl h) (Imp.ref_pref _),⟨AW (A1 rfl h) (Imp.ref_pref _),trivial⟩⟩) (A3 rfl rfl rfl (AJ rfl (kn rfl) (fun hb=>A1 rfl hb)) (AD rfl rfl rfl rfl rfl .nil))))))))))))))))))) ?_
 try refine A2 ?_
 exact A7 rfl rfl (.tmp (kn rfl) (.nil)) (AL rfl) rfl
theorem MO(p q:(Int×Int×Vl)×Ed)(h1:VSm 80 p.1.2.2)(h2:VSm 80 q.1.2.2)(hq:q.2.Sm)(hE:EEq p.2):EF Try.prog [] 58 [pP (esd p),pP (esd q)] (.part (tP (MG p q))):=by
 refine AF 45 Try.func58 rfl rfl rfl fun w D=>?_
 try refine A2 ?_
 refine B2 0 rfl (Imp.pref_ref _) ?_
 refine B2 1 rfl (Imp.pref_ref _) ?_
 refine A0 (AD rfl rfl rfl rfl rfl .nil) ?_
 try refine A2 ?_
 refine BO C0 (by kernel_rfl) (A8 rfl rfl rfl rfl rfl (A3 rfl rfl rfl (AA rfl (kn rfl)) (A3 rfl rfl rfl (A5 rfl (kn rfl) off_71_0) (A3 rfl rfl rfl (AC rfl (kn rfl) one_3) (A8 rfl rfl rfl rfl rfl (A3 rfl rfl rfl (AA rfl (kn rfl)) (A3 rfl rfl rfl (A5 rfl (kn rfl) off_71_0) (A3 rfl rfl rfl (AC rfl (kn rfl) one_3) (A3 rfl rfl rfl (A9 rfl (kn rfl) (kn rfl) AK) (A8 rfl rfl rfl rfl rfl (Walk.gd _ rfl rfl rfl (fun h=>AH rfl (kn rfl)) (Walk.gd _ rfl rfl rfl (fun h=>AA rfl (A1 rfl h)) (Walk.gd _ rfl rfl rfl (fun h=>A5 rfl (A1 rfl h) off_71_1) (Walk.gd _ rfl rfl rfl (fun h=>AC rfl (A1 rfl h) one_3) (Walk.gd _ rfl rfl rfl (fun h=>AH rfl (kn rfl)) (Walk.gd _ rfl rfl rfl (fun h=>AA rfl (A1 rfl h)) (Walk.gd _ rfl rfl rfl (fun h=>A5 rfl (A1 rfl h) off_71_1) (Walk.gd _ rfl rfl rfl (fun h=>AC rfl (A1 rfl h) one_3) (Walk.gd _ rfl rfl rfl (fun h=>A9 rfl (A1 rfl h) (A1 rfl h) AK) (A3 rfl rfl rfl (AJ rfl (kn rfl) (fun hb=>A1 rfl hb)) (A8 rfl rfl rfl rfl rfl (Walk.gd _ rfl rfl rfl (fun h=>AH rfl (kn rfl)) (Walk.gd _ rfl rfl rfl (fun h=>AA rfl (A1 rfl h)) (Walk.gd _ rfl rfl rfl (fun h=>A5 rfl (A1 rfl h) off_71_2) (Walk.gd _ rfl rfl rfl (fun h=>AQ (vd p.1.2.2) 7 rfl (A1 rfl h) agg_27 sz_27 rfl rfl) (Walk.gd _ rfl rfl rfl (fun h=>AH rfl (kn rfl)) (Walk.gd _ rfl rfl rfl (fun h=>AA rfl (A1 rfl h)) (Walk.gd _ rfl rfl rfl (fun h=>A5 rfl (A1 rfl h) off_71_2) (Walk.gd _ rfl rfl rfl (fun h=>AQ (vd q.1.2.2) 7 rfl (A1 rfl h) agg_27 sz_27 rfl rfl) (Walk.gd _ rfl rfl rfl (fun h=>AG rfl (by kernel_rfl) (C6 p.1.2.2 q.1.2.2 (h1.short (by decide)) (h2.short (by decide))) ⟨(A1 rfl h),⟨(A1 rfl h),trivial⟩⟩) (A3 rfl rfl rfl (AJ rfl (kn rfl) (fun hb=>A1 rfl hb)) (A8 rfl rfl rfl rfl rfl (Walk.gd _ rfl rfl rfl (fun h=>AH rfl (kn rfl)) (Walk.gd _ rfl rfl rfl (fun h=>AA rfl (A1 rfl h)) (Walk.gd _ rfl rfl rfl (fun h=>A5 rfl (A1 rfl h) off_71_3) (Walk.gd _ rfl rfl rfl (fun h=>AH rfl (kn rfl)) (Walk.gd _ rfl rfl rfl (fun h=>AA rfl (A1 rfl h)) (Walk.gd _ rfl rfl rfl (fun h=>A5 rfl (A1 rfl h) off_71_3) (Walk.gd _ rfl rfl rfl (fun h=>AG rfl (by kernel_rfl) (hE q.2 hq) ⟨AW (A1 rfl h) (Imp.ref_pref _),⟨AW (A1 rfl h) (Imp.ref_pref _),trivial⟩⟩) (A3 rfl rfl rfl (AJ rfl (kn rfl) (fun hb=>A1 rfl hb)) (AD rfl rfl rfl rfl rfl .nil))))))))))))))))))))))))))))))))))))))))) ?_
 try refine A2 ?_
 exact A7 rfl rfl (.tmp (kn rfl) (.nil)) (AL rfl) rfl
theorem NL(p q:Vl×Ed)(h1:VSm 20 p.1)(h2:VSm 20 q.1)(hq:q.2.Sm)(hE:EEq p.2):EF Try.prog [] 60 [pP (ekd p),pP (ekd q)] (.part (tP (PF p q))):=by
 refine AF 23 Try.func60 rfl rfl rfl fun w D=>?_
 try refine A2 ?_
 refine B2 0 rfl (Imp.pref_ref _) ?_
 refine B2 1 rfl (Imp.pref_ref _) ?_
 refine A0 (AD rfl rfl rfl rfl rfl .nil) ?_
 try refine A2 ?_
 refine BO C0 (by kernel_rfl) (A8 rfl rfl rfl rfl rfl (A3 rfl rfl rfl (AA rfl (kn rfl)) (A3 rfl rfl rfl (A5 rfl (kn rfl) off_78_0) (A3 rfl rfl rfl (AQ (vd p.1) 7 rfl (kn rfl) agg_27 sz_27 rfl rfl) (A8 rfl rfl rfl rfl rfl (A3 rfl rfl rfl (AA rfl (kn rfl)) (A3 rfl rfl rfl (A5 rfl (kn rfl) off_78_0) (A3 rfl rfl rfl (AQ (vd q.1) 7 rfl (kn rfl) agg_27 sz_27 rfl rfl) (A3 rfl rfl rfl (AG rfl (by kernel_rfl) (C6 p.1 q.1 (h1.short (by decide)) (h2.short (by decide))) ⟨(kn rfl),⟨(kn rfl),trivial⟩⟩) (A8 rfl rfl rfl rfl rfl (Walk.gd _ rfl rfl rfl (fun h=>AH rfl (kn rfl)) (Walk.gd _ rfl rfl rfl (fun h=>AA rfl (A1 rfl h)) (Walk.gd _ rfl rfl rfl (fun h=>A5 rfl (A1 rfl h) off_78_1) (Walk.gd _ rfl rfl rfl (fun h=>AH rfl (kn rfl)) (Walk.gd _ rfl rfl rfl (fun h=>AA rfl (A1 rfl h)) (Walk.gd _ rfl rfl rfl (fun h=>A5 rfl (A1 rfl h) off_78_1) (Walk.gd _ rfl rfl rfl (fun h=>AG rfl (by kernel_rfl) (hE q.2 hq) ⟨AW (A1 rfl h) (Imp.ref_pref _),⟨AW (A1 rfl h) (Imp.ref_pref _),trivial⟩⟩) (A3 rfl rfl rfl (AJ rfl (kn rfl) (fun hb=>A1 rfl hb)) (AD rfl rfl rfl rfl rfl .nil))))))))))))))))))) ?_
 try refine A2 ?_
 exact A7 rfl rfl (.tmp (kn rfl) (.nil)) (AL rfl) rfl
set_option maxHeartbeats 1000000 in
theorem O0(a:Ed)(ha:a.Sm)(ih:∀ x∈a.kids,EEq x):EEq a:=by
 intro b hb
 have la:=ha.lens
 have lb:=hb.lens
 obtain⟨_,_,_,_,_,_,a3,a4⟩:=ha.ok.all
 obtain⟨_,_,_,_,_,_,b3,b4⟩:=hb.ok.all
 have q:=O3 a b
 refine AF 41 Try.func23 rfl rfl rfl fun w D=>?_
 try refine A2 ?_
 refine B2 0 rfl (Imp.pref_ref _) ?_
 refine B2 1 rfl (Imp.pref_ref _) ?_
 refine A0 (AD rfl rfl rfl rfl rfl .nil) ?_
 try refine A2 ?_
 refine BO C0 (by kernel_rfl) (A8 rfl rfl rfl rfl rfl (A8 rfl rfl rfl rfl rfl (A3 rfl rfl rfl (AG rfl (by kernel_rfl) (N1 a b ha hb) ⟨AW (kn rfl) (Imp.ref_pref _),⟨AW (kn rfl) (Imp.ref_pref _),trivial⟩⟩) (A8 rfl rfl rfl rfl rfl (Walk.gd _ rfl rfl rfl (fun h=>AH rfl (kn rfl)) (Walk.gd _ rfl rfl rfl (fun h=>AA rfl (A1 rfl h)) (Walk.gd _ rfl rfl rfl (fun h=>A5 rfl (A1 rfl h) off_35_3) (Walk.gd _ rfl rfl rfl (fun h=>AC rfl (A1 rfl h) one_31) (Walk.gd _ rfl rfl rfl (fun h=>AH rfl (kn rfl)) (Walk.gd _ rfl rfl rfl (fun h=>AA rfl (A1 rfl h)) (Walk.gd _ rfl rfl rfl (fun h=>A5 rfl (A1 rfl h) off_35_3) (Walk.gd _ rfl rfl rfl (fun h=>AC rfl (A1 rfl h) one_31) (Walk.gd _ rfl rfl rfl (fun h=>AG rfl (by kernel_rfl) (LP 56 (by kernel_rfl) a.fields b.fields (by omega) (by omega) JJ (fun x hx y hy=>LC x y (hb.kid (Ed.kid_f hy)) (ih _ (Ed.kid_f hx)))) ⟨(A1 rfl h),⟨(A1 rfl h),⟨(kn rfl),trivial⟩⟩⟩) (A3 rfl rfl rfl (AJ rfl (kn rfl) (fun hb=>A1 rfl hb)) (A8 rfl rfl rfl rfl rfl (Walk.gd _ rfl rfl rfl (fun h=>AH rfl (kn rfl)) (Walk.gd _ rfl rfl rfl (fun h=>AA rfl (A1 rfl h)) (Walk.gd _ rfl rfl rfl (fun h=>A5 rfl (A1 rfl h) off_35_7) (Walk.gd _ rfl rfl rfl (fun h=>AC rfl (A1 rfl h) one_32) (Walk.gd _ rfl rfl rfl (fun h=>AH rfl (kn rfl)) (Walk.gd _ rfl rfl rfl (fun h=>AA rfl (A1 rfl h)) (Walk.gd _ rfl rfl rfl (fun h=>A5 rfl (A1 rfl h) off_35_7) (Walk.gd _ rfl rfl rfl (fun h=>AC rfl (A1 rfl h) one_32) (Walk.gd _ rfl rfl rfl (fun h=>AG rfl (by kernel_rfl) (LO 58 (by kernel_rfl) a.steps b.steps (by omega) (by omega) MG (fun x hx y hy=>MO x y (a3 x hx).2.2.2 (b3 y hy).2.2.2 (hb.kid (Ed.kid_s hy)) (ih _ (Ed.kid_s hx)))) ⟨(A1 rfl h),⟨(A1 rfl h),⟨(kn rfl),trivial⟩⟩⟩) (A3 rfl rfl rfl (AJ rfl (kn rfl) (fun hb=>A1 rfl hb)) (A8 rfl rfl rfl rfl rfl (Walk.gd _ rfl rfl rfl (fun h=>AH rfl (kn rfl)) (Walk.gd _ rfl rfl rfl (fun h=>AA rfl (A1 rfl h)) (Walk.gd _ rfl rfl rfl (fun h=>A5 rfl (A1 rfl h) off_35_8) (Walk.gd _ rfl rfl rfl (fun h=>AC rfl (A1 rfl h) one_33) (Walk.gd _ rfl rfl rfl (fun h=>AH rfl (kn rfl)) (Walk.gd _ rfl rfl rfl (fun h=>AA rfl (A1 rfl h)) (Walk.gd _ rfl rfl rfl (fun h=>A5 rfl (A1 rfl h) off_35_8) (Walk.gd _ rfl rfl rfl (fun h=>AC rfl (A1 rfl h) one_33) (Walk.gd _ rfl rfl rfl (fun h=>AG rfl (by kernel_rfl) (LK 60 (by kernel_rfl) a.keys b.keys (by omega) (by omega) PF (fun x hx y hy=>NL x y (a4 x hx) (b4 y hy) (hb.kid (Ed.kid_k hy)) (ih _ (Ed.kid_k hx)))) ⟨(A1 rfl h),⟨(A1 rfl h),⟨(kn rfl),trivial⟩⟩⟩) (A3 rfl rfl rfl (AJ rfl (kn rfl) (fun hb=>A1 rfl hb)) (AD rfl rfl rfl rfl rfl .nil))))))))))))))))))))))))))))))))))))) ?_
 try refine A2 ?_
 exact A7 rfl rfl (.tmp (kn rfl) (.nil)) (AL q.symm) rfl
theorem P1(a:Ed):a.Sm->EEq a:=Ed.kids_ind (P:=fun a=>a.Sm->EEq a) (fun a ih h=>O0 a h fun x hx=>ih x hx (h.kid hx)) a
theorem MS(a b:Ed)(ha:a.Sm)(hb:b.Sm):EF Try.prog [] 10 [.many (ed a),.many (ed b)] (.part (tP (eeq a b))):=by
 refine AF 6 Try.func10 rfl rfl rfl fun w D=>?_
 try refine A2 ?_
 refine AI ?_
 refine BB 2 rfl rfl rfl rfl (kn rfl) rfl rfl rfl rfl ?_
 refine BB 3 rfl rfl rfl rfl (kn rfl) rfl rfl rfl rfl ?_
 refine CM ?_
 refine AN ?_
 try refine A2 ?_
 refine HA 2 2 rfl rfl rfl ?_
 refine HA 3 3 rfl rfl rfl ?_
 refine B2 2 rfl ((Imp.ptr_ref _ _).trans (Imp.ref_pref _)) ?_
 refine B2 3 rfl ((Imp.ptr_ref _ _).trans (Imp.ref_pref _)) ?_
 refine A0 (A3 rfl rfl rfl (AG rfl (by kernel_rfl) (P1 a ha b hb) ⟨(kn rfl),⟨(kn rfl),trivial⟩⟩) (AD rfl rfl rfl rfl rfl .nil)) ?_
 try refine A2 ?_
 exact A7 rfl rfl (.tmp (kn rfl) (.nil)) (Imp.of_eq rfl) rfl
def DX(a b:Vl):Ed:=if CA a b=true then DB else .mk 1 a b [] false [] [] [] []
theorem HL(a b:Vl)(ha:AU a)(hb:AU b):EF Try.prog [] 7 [.many (vd a),.many (vd b)] (.part (.many (ed (DX a b)))):=by
 refine AF 12 Try.func7 rfl rfl rfl fun w D=>?_
 try refine A2 ?_
 refine AI ?_
 refine BB 2 rfl rfl rfl rfl (kn rfl) rfl rfl rfl rfl ?_
 refine BB 3 rfl rfl rfl rfl (kn rfl) rfl rfl rfl rfl ?_
 refine B6 4 [.is (.int .i64 0),.is (.int .i64 0),.is (.int .u64 0),.is (.string ⟨#[]⟩),.is (.slice none 0 0),.is (.string ⟨#[]⟩),.is (.slice none 0 0),.is (.slice none 0 0),.is (.int .i64 0),.is (.int .u64 0),.is (.string ⟨#[]⟩),.is (.slice none 0 0),.is (.string ⟨#[]⟩),.is (.slice none 0 0),.is (.slice none 0 0),.is (.slice none 0 0),.is (.bool false),.is (.string ⟨#[]⟩),.is (.string ⟨#[]⟩),.is (.slice none 0 0),.is (.slice none 0 0)] rfl rfl rfl rfl zr_35 (fun w D M V=>⟨rfl,fun j x v h1 h2=>B7 _ h1 h2 rfl⟩) rfl rfl rfl rfl ?_
 refine AN ?_
 try refine A2 ?_
 refine A0 (A3 rfl rfl rfl (AB (ds:=[_,_,_,_,_,_,_]) 7 rfl (kn rfl) rfl rfl agg_27 sz_27 rfl) (A3 rfl rfl rfl (AB (ds:=[_,_,_,_,_,_,_]) 7 rfl (kn rfl) rfl rfl agg_27 sz_27 rfl) (A3 rfl rfl rfl (AG rfl (by kernel_rfl) (C6 a b ha hb) ⟨(kn rfl),⟨(kn rfl),trivial⟩⟩) .nil))) ?_
 try refine A2 ?_
 refine AE rfl (fun c=>?_) (fun c=>?_)
 ·have q:DX a b=DB:=if_pos c
  try refine A2 ?_
  refine AI ?_
  refine AV (CF (ds:=[_,_,_,_,.row 8 0 [],_,.row 7 0 [],.row 14 0 [],_,_,_,.row 8 0 [],_,.row 7 0 [],.row 14 0 [],.row 22 0 [],_,_,_,.row 30 0 [],.row 28 0 []]) [] rfl trivial rfl pl_35 zr_35 (fun w D=>.cons (.cell _) (.cons (.cell _) (.cons (.cell _) (.cons (.cell _) (.cons (.none _ _ _) (.cons (.cell _) (.cons (.none _ _ _) (.cons (.none _ _ _) (.cons (.cell _) (.cons (.cell _) (.cons (.cell _) (.cons (.none _ _ _) (.cons (.cell _) (.cons (.none _ _ _) (.cons (.none _ _ _) (.cons (.none _ _ _) (.cons (.cell _) (.cons (.cell _) (.cons (.cell _) (.cons (.none _ _ _) (.cons (.none _ _ _) (.nil _ _)))))))))))))))))))))) rfl) ?_
  refine B4 rfl rfl rfl (kn rfl) rfl (kn rfl) rfl rfl sz_35 ?_
  refine AN ?_
  try refine A2 ?_
  exact A7 rfl rfl (.cell rfl rfl rfl agg_35 sz_35 rfl (.nil)) (Imp.of_eq (by rw[q];rfl)) rfl
 have q:DX a b=.mk 1 a b [] false [] [] [] []:=if_neg (by rw[CA,c];decide)
 try refine A2 ?_
 refine AI ?_
 refine AV (AB (ds:=[_,_,_,_,_,_,_]) 7 rfl (kn rfl) rfl rfl agg_27 sz_27 rfl) ?_
 refine AV (AB (ds:=[_,_,_,_,_,_,_]) 7 rfl (kn rfl) rfl rfl agg_27 sz_27 rfl) ?_
 refine AV (CF (ds:=[_,_,_,_,_,_,_,_,_,_,_,_,_,_,_,.row 22 0 [],_,_,_,.row 30 0 [],.row 28 0 []]) [(0,_),(1,_),(2,_)] rfl ⟨rfl,(kn rfl),⟨rfl,(kn rfl),⟨rfl,(kn rfl),trivial⟩⟩⟩ rfl pl_35 zr_35 (fun w D=>.cons (.cell _) (.cons (.cell _) (.cons (.cell _) (.cons (.cell _) (.cons (.cell _) (.cons (.cell _) (.cons (.cell _) (.cons (.cell _) (.cons (.cell _) (.cons (.cell _) (.cons (.cell _) (.cons (.cell _) (.cons (.cell _) (.cons (.cell _) (.cons (.cell _) (.cons (.none _ _ _) (.cons (.cell _) (.cons (.cell _) (.cons (.cell _) (.cons (.none _ _ _) (.cons (.none _ _ _) (.nil _ _)))))))))))))))))))))) rfl) ?_
 refine B4 rfl rfl rfl (kn rfl) rfl (kn rfl) rfl rfl sz_35 ?_
 refine AN ?_
 try refine A2 ?_
 exact A7 rfl rfl (.cell rfl rfl rfl agg_35 sz_35 rfl (.nil)) (Imp.of_eq (by rw[q];rfl)) rfl
theorem O6{P:Program}{f:FuncId}{ps:List Part}{v:Value}{w:World}{vs:List Value}(h:EF P [] f ps (.is v))(hp:PsFit w (Old w) ps vs):Calls P f vs.toArray w fun e w'=>e=.returned v/\Below w.heap.size w w':=
 (h w (Old w) vs (fun g hg=>hg) (fun _ _ h=>by cases h) hp).mono fun e w' ⟨u,y,h1,h2,h3,h4⟩=>by
  subst h2
  refine⟨?_,h3⟩
  rw[h1,VR.is_eq (h4 (fun _=>0) (fun _=>undef))]
theorem FM(k:Int)(n:Nat)(h1 : -9223372036854775808<=k)(h2:k<9223372036854775808)(h3:n<18446744073709551616):VSm 80 (.mk k n [] [] [] [] []):=
 ⟨(IU k n h1 h2 h3).fine,(IU k n h1 h2 h3).tx,by rw[BV];simp[Vl.list,Vl.fields,Vl.pairs,lnodes,fnodes,pnodes]⟩
theorem FN(k:Int)(o n:Vl)(hk:I64 k)(ho:VSm 80 o)(hn:VSm 80 n):(Ed.mk k o n [] false [] [] [] []).Sm:=
 ⟨.mk _ hk ho hn (Nat.zero_le _) (Nat.zero_le _) (fun _ h=>by cases h) (fun _ h=>by cases h) (fun _ h=>by cases h) (fun _ h=>by cases h),by rw[DM];simp[Ed.fields,Ed.steps,Ed.keys]⟩
theorem GH(a b:Vl):BK (.mk 1 a b [] false [] [] [] [])=(vright a&&vright b && !CA a b):=by
 rw[DD]
 simp[DK,Ed.kind,Ed.old,Ed.new,Ed.fields,Ed.rests,Ed.ro,Ed.rn,Ed.steps,Ed.keys]
theorem K6:BK DB=true:=by
 rw[DD,HC]
 simp[DB,Ed.kind]
theorem LD(n:Nat):vright (JO n)=true:=by simp[JO,vright,fright,lright,pright,vplain,Vl.kind,Vl.num,Vl.text,Vl.fields,Vl.rest,Vl.list,Vl.pairs]
theorem L0:vright BN=true:=by simp[BN,vright,fright,lright,pright,vplain,Vl.kind,Vl.num,Vl.text,Vl.fields,Vl.rest,Vl.list,Vl.pairs]
theorem JX:CA BN (JO 1)=false:=by
 unfold CA
 rw[FI]
 rfl
def exE:Ed:=.mk 1 BN (JO 1) [] false [] [] [] []
theorem OG:DX BN (JO 1)=exE:=by
 unfold DX
 rw[JX]
 rfl
theorem Q4:(decide ((1:Int)=1)&&decide (((BY exE:Nat):Int)=2)&&BK exE && !BK (.mk 9 BN BN [] false [] [] [] []))=true:=by
 have h1:BY exE=2:=by
  rw[HE]
  simp[exE,Ed.kind,Ed.old,Ed.new,Ed.fields,Ed.steps,Ed.keys,BN,JO,vsize,lsize,fsize,psize]
 have h2:BK exE=true:=by
  unfold exE
  rw[GH,L0,LD,JX]
  rfl
 have h3:BK (.mk 9 BN BN [] false [] [] [] [])=false:=LH (.inr (by decide))
 rw[h1,h2,h3]
 rfl
set_option maxHeartbeats 1000000 in
theorem LR:EF Try.prog [] 4 [] (.part (tP true)):=by
 have z0:VSm 80 BN:=FM 0 0 (by decide) (by decide) (by decide)
 have z1:VSm 80 (JO 1):=FM 1 1 (by decide) (by decide) (by decide)
 have e1:exE.Sm:=FN 1 _ _ ⟨by decide,by decide⟩ z0 z1
 have e9:(Ed.mk 9 BN BN [] false [] [] [] []).Sm:=FN 9 _ _ ⟨by decide,by decide⟩ z0 z0
 refine AF 22 Try.func4 rfl rfl rfl fun w D=>?_
 try refine A2 ?_
 refine A0 (AD rfl rfl rfl rfl rfl .nil) ?_
 try refine A2 ?_
 refine AI ?_
 refine AV (CF (ds:=[_,_,_,.row 8 0 [],_,.row 7 0 [],.row 14 0 []]) [] rfl trivial rfl pl_27 zr_27 (fun w D=>.cons (.cell _) (.cons (.cell _) (.cons (.cell _) (.cons (.none _ _ _) (.cons (.cell _) (.cons (.none _ _ _) (.cons (.none _ _ _) (.nil _ _)))))))) rfl) ?_
 refine AV (CF (ds:=[_,_,_,.row 8 0 [],_,.row 7 0 [],.row 14 0 []]) [(0,_),(1,_)] rfl ⟨rfl,(kn rfl),⟨rfl,(kn rfl),trivial⟩⟩ rfl pl_27 zr_27 (fun w D=>.cons (.cell _) (.cons (.cell _) (.cons (.cell _) (.cons (.none _ _ _) (.cons (.cell _) (.cons (.none _ _ _) (.cons (.none _ _ _) (.nil _ _)))))))) rfl) ?_
 refine AV (AG rfl (by kernel_rfl) (HL BN (JO 1) (z0.short (by decide)) (z1.short (by decide))) ⟨(kn rfl),⟨(kn rfl),trivial⟩⟩) ?_
 refine B6 1 [.is (.int .i64 0),.is (.int .i64 0),.is (.int .u64 0),.is (.string ⟨#[]⟩),.is (.slice none 0 0),.is (.string ⟨#[]⟩),.is (.slice none 0 0),.is (.slice none 0 0),.is (.int .i64 0),.is (.int .u64 0),.is (.string ⟨#[]⟩),.is (.slice none 0 0),.is (.string ⟨#[]⟩),.is (.slice none 0 0),.is (.slice none 0 0),.is (.slice none 0 0),.is (.bool false),.is (.string ⟨#[]⟩),.is (.string ⟨#[]⟩),.is (.slice none 0 0),.is (.slice none 0 0)] rfl rfl rfl rfl zr_35 (fun w D M V=>⟨rfl,fun j x v h1 h2=>B7 _ h1 h2 rfl⟩) rfl rfl rfl rfl ?_
 refine B4 rfl rfl rfl (kn rfl) rfl (kn rfl) rfl rfl sz_35 ?_
 refine AN ?_
 try refine A2 ?_
 rw[OG]
 refine A0 (A3 rfl rfl rfl (A4 rfl (kn rfl) off_35_0) (A3 rfl rfl rfl (A6 rfl (kn rfl) rfl rfl one_3) (A3 rfl rfl rfl (A9 rfl (kn rfl) (kn rfl) AK) (A8 rfl rfl rfl rfl rfl (Walk.gd _ rfl rfl rfl (fun h=>AB (ds:=[_,_,_,_,_,_,_,_,_,_,_,_,_,_,_,_,_,_,_,_,_]) 21 rfl (kn rfl) rfl rfl agg_35 sz_35 rfl) (Walk.gd _ rfl rfl rfl (fun h=>AG rfl (by kernel_rfl) (MX exE e1) ⟨(A1 rfl h),trivial⟩) (Walk.gd _ rfl rfl rfl (fun h=>A9 rfl (A1 rfl h) (kn rfl) AK) (A3 rfl rfl rfl (AJ rfl (kn rfl) (fun hb=>A1 rfl hb)) (A8 rfl rfl rfl rfl rfl (Walk.gd _ rfl rfl rfl (fun h=>AB (ds:=[_,_,_,_,_,_,_,_,_,_,_,_,_,_,_,_,_,_,_,_,_]) 21 rfl (kn rfl) rfl rfl agg_35 sz_35 rfl) (Walk.gd _ rfl rfl rfl (fun h=>AG rfl (by kernel_rfl) (FT exE e1) ⟨(A1 rfl h),trivial⟩) (A3 rfl rfl rfl (AJ rfl (kn rfl) (fun hb=>A1 rfl hb)) (A8 rfl rfl rfl rfl rfl (Walk.gd _ rfl rfl rfl (fun h=>CF (ds:=[_,_,_,_,.row 8 0 [],_,.row 7 0 [],.row 14 0 [],_,_,_,.row 8 0 [],_,.row 7 0 [],.row 14 0 [],.row 22 0 [],_,_,_,.row 30 0 [],.row 28 0 []]) [(0,_)] rfl ⟨rfl,(kn rfl),trivial⟩ rfl pl_35 zr_35 (fun w D=>.cons (.cell _) (.cons (.cell _) (.cons (.cell _) (.cons (.cell _) (.cons (.none _ _ _) (.cons (.cell _) (.cons (.none _ _ _) (.cons (.none _ _ _) (.cons (.cell _) (.cons (.cell _) (.cons (.cell _) (.cons (.none _ _ _) (.cons (.cell _) (.cons (.none _ _ _) (.cons (.none _ _ _) (.cons (.none _ _ _) (.cons (.cell _) (.cons (.cell _) (.cons (.cell _) (.cons (.none _ _ _) (.cons (.none _ _ _) (.nil _ _)))))))))))))))))))))) rfl) (Walk.gd _ rfl rfl rfl (fun h=>AG rfl (by kernel_rfl) (FT (.mk 9 BN BN [] false [] [] [] []) e9) ⟨(A1 rfl h),trivial⟩) (Walk.gd _ rfl rfl rfl (fun h=>C1 rfl (A1 rfl h)) (A3 rfl rfl rfl (AJ rfl (kn rfl) (fun hb=>A1 rfl hb)) (AD rfl rfl rfl rfl rfl .nil)))))))))))))))))) ?_
 try refine A2 ?_
 exact A7 rfl rfl (.tmp (kn rfl) (.nil)) (AL Q4) rfl
theorem M3{x y:Bool}(h:(!(x||y))=true):x=false/\y=false:=by cases x<;>cases y<;>first | exact⟨rfl,rfl⟩ | cases h
theorem O9{a b:Vl}(ha:VSm 80 a)(hb:VSm 80 b):(DX a b).Sm:=by
 have z0:VSm 80 BN:=FM 0 0 (by decide) (by decide) (by decide)
 unfold DX
 split
 ·exact FN 0 _ _ ⟨by decide,by decide⟩ z0 z0
 ·exact FN 1 _ _ ⟨by decide,by decide⟩ ha hb
set_option maxHeartbeats 1000000 in
theorem N8(a b:Vl)(ha:a.Fine)(hb:b.Fine):EF Try.prog [] 3 [.many (vd a),.many (vd b)] (.part (tP true)):=by
 have z0:VSm 80 BN:=FM 0 0 (by decide) (by decide) (by decide)
 have sA:NN a 80=false->VSm 80 a:=fun h=>MB (n:=80) ha h
 have sB:NN b 80=false->VSm 80 b:=fun h=>MB (n:=80) hb h
 refine AF 51 Try.func3 rfl rfl rfl fun w D=>?_
 try refine A2 ?_
 refine AI ?_
 refine BB 2 rfl rfl rfl rfl (kn rfl) rfl rfl rfl rfl ?_
 refine BB 3 rfl rfl rfl rfl (kn rfl) rfl rfl rfl rfl ?_
 refine CM ?_
 refine AN ?_
 try refine A2 ?_
 refine A0 (A3 rfl rfl rfl (AG rfl (by kernel_rfl) (LR) trivial) (A3 rfl rfl rfl (C1 rfl (kn rfl)) .nil)) ?_
 try refine A2 ?_
 refine N4 ?_
 try refine A2 ?_
 refine A0 (A3 rfl rfl rfl (AB (ds:=[_,_,_,_,_,_,_]) 7 rfl (kn rfl) rfl rfl agg_27 sz_27 rfl) (A3 rfl rfl rfl (AG rfl (by kernel_rfl) (OK a 80 ha (by decide) (by decide)) ⟨(kn rfl),⟨(kn rfl),trivial⟩⟩) (A8 rfl rfl rfl rfl rfl (Walk.gd _ rfl rfl rfl (fun h=>AB (ds:=[_,_,_,_,_,_,_]) 7 rfl (kn rfl) rfl rfl agg_27 sz_27 rfl) (Walk.gd _ rfl rfl rfl (fun h=>AG rfl (by kernel_rfl) (OK b 80 hb (by decide) (by decide)) ⟨(A1 rfl h),⟨(kn rfl),trivial⟩⟩) (A3 rfl rfl rfl (GO rfl (kn rfl) (fun hb=>A1 rfl hb)) (A8 rfl rfl rfl rfl rfl (Walk.gd _ rfl rfl rfl (fun h=>AB (ds:=[_,_,_,_,_,_,_]) 7 rfl (kn rfl) rfl rfl agg_27 sz_27 rfl) (Walk.gd _ rfl rfl rfl (fun h=>AG rfl (by kernel_rfl) (CC a ((sA (M3 h).1).short (by decide))) ⟨(A1 rfl h),trivial⟩) (Walk.gd _ rfl rfl rfl (fun h=>C1 rfl (A1 rfl h)) (A3 rfl rfl rfl (GO rfl (kn rfl) (fun hb=>A1 rfl hb)) (A8 rfl rfl rfl rfl rfl (Walk.gd _ rfl rfl rfl (fun h=>AB (ds:=[_,_,_,_,_,_,_]) 7 rfl (kn rfl) rfl rfl agg_27 sz_27 rfl) (Walk.gd _ rfl rfl rfl (fun h=>AG rfl (by kernel_rfl) (CC b ((sB (M3 (congrArg not (M3 h).1)).2).short (by decide))) ⟨(A1 rfl h),trivial⟩) (Walk.gd _ rfl rfl rfl (fun h=>C1 rfl (A1 rfl h)) (A3 rfl rfl rfl (GO rfl (kn rfl) (fun hb=>A1 rfl hb)) .nil)))))))))))))))) ?_
 try refine A2 ?_
 refine AE rfl (fun h=>?_) (fun h=>?_)
 ·try refine A2 ?_
  refine A0 (AD rfl rfl rfl rfl rfl .nil) ?_
  try refine A2 ?_
  exact A7 rfl rfl (.tmp (kn rfl) (.nil)) (Imp.of_eq rfl) rfl
 simp only[Bool.or_eq_false_iff,Bool.not_eq_false']at h
 obtain⟨⟨⟨g1,g2⟩,g3⟩,g4⟩:=h
 have va:=sA g1
 have vb:=sB g2
 have s1:=va.short (by decide)
 have s2:=vb.short (by decide)
 have hsm:=O9 va vb
 have hr:BK (DX a b)=true:=by
  unfold DX
  split
  ·exact K6
  ·rename_i hn
   rw[GH,g3,g4]
   simpa using hn
 try refine A2 ?_
 refine AI ?_
 refine AV (AB (ds:=[_,_,_,_,_,_,_]) 7 rfl (kn rfl) rfl rfl agg_27 sz_27 rfl) ?_
 refine AV (AB (ds:=[_,_,_,_,_,_,_]) 7 rfl (kn rfl) rfl rfl agg_27 sz_27 rfl) ?_
 refine AV (AG rfl (by kernel_rfl) (HL a b s1 s2) ⟨(kn rfl),⟨(kn rfl),trivial⟩⟩) ?_
 refine B6 5 [.is (.int .i64 0),.is (.int .i64 0),.is (.int .u64 0),.is (.string ⟨#[]⟩),.is (.slice none 0 0),.is (.string ⟨#[]⟩),.is (.slice none 0 0),.is (.slice none 0 0),.is (.int .i64 0),.is (.int .u64 0),.is (.string ⟨#[]⟩),.is (.slice none 0 0),.is (.string ⟨#[]⟩),.is (.slice none 0 0),.is (.slice none 0 0),.is (.slice none 0 0),.is (.bool false),.is (.string ⟨#[]⟩),.is (.string ⟨#[]⟩),.is (.slice none 0 0),.is (.slice none 0 0)] rfl rfl rfl rfl zr_35 (fun w D M V=>⟨rfl,fun j x v h1 h2=>B7 _ h1 h2 rfl⟩) rfl rfl rfl rfl ?_
 refine B4 rfl rfl rfl (kn rfl) rfl (kn rfl) rfl rfl sz_35 ?_
 refine AN ?_
 try refine A2 ?_
 refine A0 (A3 rfl rfl rfl (AB (ds:=[_,_,_,_,_,_,_,_,_,_,_,_,_,_,_,_,_,_,_,_,_]) 21 rfl (kn rfl) rfl rfl agg_35 sz_35 rfl) (A3 rfl rfl rfl (AG rfl (by kernel_rfl) (FT (DX a b) hsm) ⟨(kn rfl),trivial⟩) (A3 rfl rfl rfl (C1 rfl (kn rfl)) .nil))) ?_
 try refine A2 ?_
 rw[hr]
 refine N4 ?_
 try refine A2 ?_
 refine A0 (A3 rfl rfl rfl (AB (ds:=[_,_,_,_,_,_,_]) 7 rfl (kn rfl) rfl rfl agg_27 sz_27 rfl) (A3 rfl rfl rfl (AB (ds:=[_,_,_,_,_,_,_]) 7 rfl (kn rfl) rfl rfl agg_27 sz_27 rfl) (A3 rfl rfl rfl (AG rfl (by kernel_rfl) (C6 a b s1 s2) ⟨(kn rfl),⟨(kn rfl),trivial⟩⟩) .nil))) ?_
 try refine A2 ?_
 refine AE rfl (fun h=>?_) (fun h=>?_)
 ·have hz:DX a b=DB:=if_pos h
  rw[hz]at hsm ⊢
  try refine A2 ?_
  refine A0 (A3 rfl rfl rfl (AB (ds:=[_,_,_,_,_,_,_,_,_,_,_,_,_,_,_,_,_,_,_,_,_]) 21 rfl (kn rfl) rfl rfl agg_35 sz_35 rfl) (A3 rfl rfl rfl (CF (ds:=[_,_,_,_,.row 8 0 [],_,.row 7 0 [],.row 14 0 [],_,_,_,.row 8 0 [],_,.row 7 0 [],.row 14 0 [],.row 22 0 [],_,_,_,.row 30 0 [],.row 28 0 []]) [] rfl trivial rfl pl_35 zr_35 (fun w D=>.cons (.cell _) (.cons (.cell _) (.cons (.cell _) (.cons (.cell _) (.cons (.none _ _ _) (.cons (.cell _) (.cons (.none _ _ _) (.cons (.none _ _ _) (.cons (.cell _) (.cons (.cell _) (.cons (.cell _) (.cons (.none _ _ _) (.cons (.cell _) (.cons (.none _ _ _) (.cons (.none _ _ _) (.cons (.none _ _ _) (.cons (.cell _) (.cons (.cell _) (.cons (.cell _) (.cons (.none _ _ _) (.cons (.none _ _ _) (.nil _ _)))))))))))))))))))))) rfl) (A3 rfl rfl rfl (AG rfl (by kernel_rfl) (MS DB DB hsm hsm) ⟨(kn rfl),⟨(kn rfl),trivial⟩⟩) (AD rfl rfl rfl rfl rfl .nil)))) ?_
  try refine A2 ?_
  exact A7 rfl rfl (.tmp (kn rfl) (.nil)) (AL (NV DB)) rfl
 have hz:DX a b=.mk 1 a b [] false [] [] [] []:=if_neg (by rw[CA,h];decide)
 rw[hz]
 try refine A2 ?_
 refine A0 (A3 rfl rfl rfl (A4 rfl (kn rfl) off_35_0) (A3 rfl rfl rfl (A6 rfl (kn rfl) rfl rfl one_3) (A3 rfl rfl rfl (A9 rfl (kn rfl) (kn rfl) AK) (A8 rfl rfl rfl rfl rfl (Walk.gd _ rfl rfl rfl (fun h=>A4 rfl (kn rfl) off_35_1) (Walk.gd _ rfl rfl rfl (fun h=>AB (ds:=[_,_,_,_,_,_,_]) 7 rfl (A1 rfl h) rfl rfl agg_27 sz_27 rfl) (Walk.gd _ rfl rfl rfl (fun h=>AB (ds:=[_,_,_,_,_,_,_]) 7 rfl (kn rfl) rfl rfl agg_27 sz_27 rfl) (Walk.gd _ rfl rfl rfl (fun h=>AG rfl (by kernel_rfl) (C6 a a s1 s1) ⟨(A1 rfl h),⟨(A1 rfl h),trivial⟩⟩) (A3 rfl rfl rfl (AJ rfl (kn rfl) (fun hb=>A1 rfl hb)) (A8 rfl rfl rfl rfl rfl (Walk.gd _ rfl rfl rfl (fun h=>A4 rfl (kn rfl) off_35_2) (Walk.gd _ rfl rfl rfl (fun h=>AB (ds:=[_,_,_,_,_,_,_]) 7 rfl (A1 rfl h) rfl rfl agg_27 sz_27 rfl) (Walk.gd _ rfl rfl rfl (fun h=>AB (ds:=[_,_,_,_,_,_,_]) 7 rfl (kn rfl) rfl rfl agg_27 sz_27 rfl) (Walk.gd _ rfl rfl rfl (fun h=>AG rfl (by kernel_rfl) (C6 b b s2 s2) ⟨(A1 rfl h),⟨(A1 rfl h),trivial⟩⟩) (A3 rfl rfl rfl (AJ rfl (kn rfl) (fun hb=>A1 rfl hb)) (AD rfl rfl rfl rfl rfl .nil)))))))))))))))) ?_
 try refine A2 ?_
 exact A7 rfl rfl (.tmp (kn rfl) (.nil)) (AL (by rw[FY,FY];rfl)) rfl
end Go.Proofs.Ytojdpgeeajaojaa
