/- Part 28. Conditions: as each theorem says. -/
import Derived.Test.YtojdpgeeajaojaaGreatET27
import Derived.Test.YtojdpgeeajaojaaGreatProg
set_option maxRecDepth 100000
namespace Go.Proofs.YtojdpgeeajaojaaGreat
open Go.RowKit
theorem U2{a b:Int}(h:a=b):Imp (J3 [.one (.cell (.int .i64 a))]) (.part (iP b)):=Imp.of_eq (by rw[h];rfl)
theorem Ed.Sm.short{e:Ed}(h:e.Sm):B8 e.old/\B8 e.new:=by
 obtain⟨_,a,b,_⟩:=h.ok.all
 exact⟨a.short (by decide),b.short (by decide)⟩
def ESz(e:Ed):Prop:=EF Tryz.prog [] 26 [pP (ed e)] (.part (iP (C2 e)))
theorem Q6(e:Ed)(hs:e.Sm):EF Tryz.prog [] 49 [pP (ed e)] (.part (iP ((vsize e.old:Int)+(vsize e.new:Int)))):=by
 obtain⟨_,o1,o2,_⟩:=hs.ok.all
 have a1:=CO o1
 have a2:=CO o2
 refine AG 14 Tryz.func49 rfl rfl rfl fun w D=>?_
 try refine A3 ?_
 refine BB 0 rfl (Imp.pref_ref _) ?_
 refine A2 (AC rfl rfl rfl rfl rfl .nil) ?_
 try refine A3 ?_
 refine BD BF (by kernel_rfl) (A9 rfl rfl rfl rfl rfl (A4 rfl rfl rfl (AE rfl (kn rfl)) (A4 rfl rfl rfl (AA rfl (kn rfl) off_32_1) (A4 rfl rfl rfl (B2 (vd e.old) 7 rfl (kn rfl) agg_27 sz_27 rfl rfl) (A4 rfl rfl rfl (AD rfl (by kernel_rfl) (HK e.old hs.short.1) ⟨(kn rfl),trivial⟩) (A9 rfl rfl rfl rfl rfl (A4 rfl rfl rfl (AE rfl (kn rfl)) (A4 rfl rfl rfl (AA rfl (kn rfl) off_32_2) (A4 rfl rfl rfl (B2 (vd e.new) 7 rfl (kn rfl) agg_27 sz_27 rfl rfl) (A4 rfl rfl rfl (AD rfl (by kernel_rfl) (HK e.new hs.short.2) ⟨(kn rfl),trivial⟩) (A4 rfl rfl rfl (A6 rfl (kn rfl) (kn rfl) (AK (by first | omega | (dsimp only;omega)))) (AC rfl rfl rfl rfl rfl .nil)))))))))))) ?_
 try refine A3 ?_
 exact A8 rfl rfl (.tmp (kn rfl) (.nil)) (Imp.of_eq rfl) rfl
theorem MB(p:Int×Ed)(hE:ESz p.2):EF Tryz.prog [] 51 [pP (efd p)] (.part (iP (C2 p.2))):=by
 refine AG 7 Tryz.func51 rfl rfl rfl fun w D=>?_
 try refine A3 ?_
 refine BB 0 rfl (Imp.pref_ref _) ?_
 refine A2 (AC rfl rfl rfl rfl rfl .nil) ?_
 try refine A3 ?_
 refine A2 (A9 rfl rfl rfl rfl rfl (A4 rfl rfl rfl (AE rfl (kn rfl)) (A4 rfl rfl rfl (AA rfl (kn rfl) off_57_1) (A4 rfl rfl rfl (AD rfl (by kernel_rfl) (hE) ⟨B7 (kn rfl) (Imp.ref_pref _),trivial⟩) (AC rfl rfl rfl rfl rfl .nil))))) ?_
 try refine A3 ?_
 exact A8 rfl rfl (.tmp (kn rfl) (.nil)) (Imp.of_eq rfl) rfl
theorem O0(p:(Int×Int×Vl)×Ed)(hv:VSm 80 p.1.2.2)(hb:C2 p.2<=100000)(hE:ESz p.2):EF Tryz.prog [] 53 [pP (esd p)] (.part (iP ((1+vsize p.1.2.2+C2 p.2:Nat):Int))):=by
 have a1:=CO hv
 refine AG 14 Tryz.func53 rfl rfl rfl fun w D=>?_
 try refine A3 ?_
 refine BB 0 rfl (Imp.pref_ref _) ?_
 refine A2 (AC rfl rfl rfl rfl rfl .nil) ?_
 try refine A3 ?_
 refine BD BF (by kernel_rfl) (A9 rfl rfl rfl rfl rfl (A4 rfl rfl rfl (AE rfl (kn rfl)) (A4 rfl rfl rfl (AA rfl (kn rfl) off_77_2) (A4 rfl rfl rfl (B2 (vd p.1.2.2) 7 rfl (kn rfl) agg_27 sz_27 rfl rfl) (A4 rfl rfl rfl (AD rfl (by kernel_rfl) (HK p.1.2.2 (hv.short (by decide))) ⟨(kn rfl),trivial⟩) (A4 rfl rfl rfl (A6 rfl (kn rfl) (kn rfl) (AK (by first | omega | (dsimp only;omega)))) (A9 rfl rfl rfl rfl rfl (A4 rfl rfl rfl (AE rfl (kn rfl)) (A4 rfl rfl rfl (AA rfl (kn rfl) off_77_3) (A4 rfl rfl rfl (AD rfl (by kernel_rfl) (hE) ⟨B7 (kn rfl) (Imp.ref_pref _),trivial⟩) (A4 rfl rfl rfl (A6 rfl (kn rfl) (kn rfl) (AK (by first | omega | (dsimp only;omega)))) (AC rfl rfl rfl rfl rfl .nil)))))))))))) ?_
 try refine A3 ?_
 exact A8 rfl rfl (.tmp (kn rfl) (.nil)) (Imp.of_eq (by congr 4)) rfl
theorem PE(p:Vl×Ed)(hv:VSm 20 p.1)(hb:C2 p.2<=100000)(hE:ESz p.2):EF Tryz.prog [] 55 [pP (ekd p)] (.part (iP ((vsize p.1+C2 p.2:Nat):Int))):=by
 have a1:=CO hv
 refine AG 13 Tryz.func55 rfl rfl rfl fun w D=>?_
 try refine A3 ?_
 refine BB 0 rfl (Imp.pref_ref _) ?_
 refine A2 (AC rfl rfl rfl rfl rfl .nil) ?_
 try refine A3 ?_
 refine BD BF (by kernel_rfl) (A9 rfl rfl rfl rfl rfl (A4 rfl rfl rfl (AE rfl (kn rfl)) (A4 rfl rfl rfl (AA rfl (kn rfl) off_61_0) (A4 rfl rfl rfl (B2 (vd p.1) 7 rfl (kn rfl) agg_27 sz_27 rfl rfl) (A4 rfl rfl rfl (AD rfl (by kernel_rfl) (HK p.1 (hv.short (by decide))) ⟨(kn rfl),trivial⟩) (A9 rfl rfl rfl rfl rfl (A4 rfl rfl rfl (AE rfl (kn rfl)) (A4 rfl rfl rfl (AA rfl (kn rfl) off_61_1) (A4 rfl rfl rfl (AD rfl (by kernel_rfl) (hE) ⟨B7 (kn rfl) (Imp.ref_pref _),trivial⟩) (A4 rfl rfl rfl (A6 rfl (kn rfl) (kn rfl) (AK (by first | omega | (dsimp only;omega)))) (AC rfl rfl rfl rfl rfl .nil))))))))))) ?_
 try refine A3 ?_
 exact A8 rfl rfl (.tmp (kn rfl) (.nil)) (Imp.of_eq (by congr 4)) rfl
set_option maxHeartbeats 1000000 in
theorem SS(e:Ed)(hs:e.Sm)(ih:∀ x∈e.kids,ESz x):ESz e:=by
 unfold ESz
 have hl:=hs.lens
 have hb:=hs.bounds.1
 obtain⟨_,o1,o2,_,_,_,h3,h4⟩:=hs.ok.all
 have hk:∀ x∈e.kids,C2 x<=100000:=fun x hx=>by have:=(hs.kid hx).bounds.1;omega
 have q:=HN e
 refine AG 29 Tryz.func26 rfl rfl rfl fun w D=>?_
 try refine A3 ?_
 refine BB 0 rfl (Imp.pref_ref _) ?_
 refine A2 (AC rfl rfl rfl rfl rfl .nil) ?_
 try refine A3 ?_
 refine A2 (A9 rfl rfl rfl rfl rfl (A4 rfl rfl rfl (AE rfl (kn rfl)) (A4 rfl rfl rfl (AA rfl (kn rfl) off_32_0) (A4 rfl rfl rfl (AF rfl (kn rfl) one_3) (A4 rfl rfl rfl (A6 rfl (kn rfl) (kn rfl) AP) .nil))))) ?_
 try refine A3 ?_
 refine AB rfl (fun c=>?_) (fun c=>?_)
 ·rw[if_pos (of_decide_eq_true c)]at q
  try refine A3 ?_
  refine A2 (AC rfl rfl rfl rfl rfl .nil) ?_
  try refine A3 ?_
  exact A8 rfl rfl (.tmp (kn rfl) (.nil)) (Imp.of_eq (by rw[q];rfl)) rfl
 rw[if_neg (of_decide_eq_false c)]at q
 try refine A3 ?_
 refine BD BF (by kernel_rfl) (A9 rfl rfl rfl rfl rfl (A4 rfl rfl rfl (AD rfl (by kernel_rfl) (Q6 e hs) ⟨B7 (kn rfl) (Imp.ref_pref _),trivial⟩) (A4 rfl rfl rfl (A6 rfl (kn rfl) (kn rfl) (AK (by first | omega | (dsimp only;omega)))) (A9 rfl rfl rfl rfl rfl (A4 rfl rfl rfl (AE rfl (kn rfl)) (A4 rfl rfl rfl (AA rfl (kn rfl) off_32_3) (A4 rfl rfl rfl (AF rfl (kn rfl) one_28) (A4 rfl rfl rfl (AD rfl (by kernel_rfl) (RS 51 (by kernel_rfl) e.fields (by omega) (fun p=>C2 p.2) (by omega) (fun x hx=>MB x (ih _ (Ed.kid_f hx)))) ⟨(kn rfl),⟨(kn rfl),trivial⟩⟩) (A4 rfl rfl rfl (A6 rfl (kn rfl) (kn rfl) (AK (by first | omega | (dsimp only;omega)))) (A9 rfl rfl rfl rfl rfl (A4 rfl rfl rfl (AE rfl (kn rfl)) (A4 rfl rfl rfl (AA rfl (kn rfl) off_32_7) (A4 rfl rfl rfl (AF rfl (kn rfl) one_29) (A4 rfl rfl rfl (AD rfl (by kernel_rfl) (SX 53 (by kernel_rfl) e.steps (by omega) (fun s=>1+vsize s.1.2.2+C2 s.2) (by omega) (fun x hx=>O0 x (h3 x hx).2.2.2 (hk _ (Ed.kid_s hx)) (ih _ (Ed.kid_s hx)))) ⟨(kn rfl),⟨(kn rfl),trivial⟩⟩) (A4 rfl rfl rfl (A6 rfl (kn rfl) (kn rfl) (AK (by first | omega | (dsimp only;omega)))) (A9 rfl rfl rfl rfl rfl (A4 rfl rfl rfl (AE rfl (kn rfl)) (A4 rfl rfl rfl (AA rfl (kn rfl) off_32_8) (A4 rfl rfl rfl (AF rfl (kn rfl) one_30) (A4 rfl rfl rfl (AD rfl (by kernel_rfl) (RB 55 (by kernel_rfl) e.keys (by omega) (fun s=>vsize s.1+C2 s.2) (by omega) (fun x hx=>PE x (h4 x hx) (hk _ (Ed.kid_k hx)) (ih _ (Ed.kid_k hx)))) ⟨(kn rfl),⟨(kn rfl),trivial⟩⟩) (A4 rfl rfl rfl (A6 rfl (kn rfl) (kn rfl) (AK (by first | omega | (dsimp only;omega)))) (AC rfl rfl rfl rfl rfl .nil)))))))))))))))))))))) ?_
 try refine A3 ?_
 exact A8 rfl rfl (.tmp (kn rfl) (.nil)) (U2 (by rw[q];push_cast;omega)) rfl
theorem UL(e:Ed):e.Sm->ESz e:=Ed.kids_ind (P:=fun e=>e.Sm->ESz e) (fun e ih h=>SS e h fun x hx=>ih x hx (h.kid hx)) e
theorem LE(e:Ed)(hs:e.Sm):EF Tryz.prog [] 9 [.many (ed e)] (.part (iP (C2 e))):=by
 refine AG 4 Tryz.func9 rfl rfl rfl fun w D=>?_
 try refine A3 ?_
 refine AI ?_
 refine B9 1 rfl rfl rfl rfl (kn rfl) rfl rfl rfl rfl ?_
 refine BX ?_
 refine AM ?_
 try refine A3 ?_
 refine I2 1 1 rfl rfl rfl ?_
 refine BB 1 rfl ((Imp.ptr_ref _ _).trans (Imp.ref_pref _)) ?_
 refine A2 (A4 rfl rfl rfl (AD rfl (by kernel_rfl) (UL e hs) ⟨(kn rfl),trivial⟩) (AC rfl rfl rfl rfl rfl .nil)) ?_
 try refine A3 ?_
 exact A8 rfl rfl (.tmp (kn rfl) (.nil)) (Imp.of_eq rfl) rfl
def EDp(e:Ed):Prop:=EF Tryz.prog [] 28 [pP (ed e)] (.part (iP (C7 e)))
theorem KT(p:Int×Ed)(hE:EDp p.2):EF Tryz.prog [] 58 [pP (efd p)] (.part (iP (C7 p.2))):=by
 refine AG 7 Tryz.func58 rfl rfl rfl fun w D=>?_
 try refine A3 ?_
 refine BB 0 rfl (Imp.pref_ref _) ?_
 refine A2 (AC rfl rfl rfl rfl rfl .nil) ?_
 try refine A3 ?_
 refine A2 (A9 rfl rfl rfl rfl rfl (A4 rfl rfl rfl (AE rfl (kn rfl)) (A4 rfl rfl rfl (AA rfl (kn rfl) off_57_1) (A4 rfl rfl rfl (AD rfl (by kernel_rfl) (hE) ⟨B7 (kn rfl) (Imp.ref_pref _),trivial⟩) (AC rfl rfl rfl rfl rfl .nil))))) ?_
 try refine A3 ?_
 exact A8 rfl rfl (.tmp (kn rfl) (.nil)) (Imp.of_eq rfl) rfl
theorem M9(p:(Int×Int×Vl)×Ed)(hE:EDp p.2):EF Tryz.prog [] 60 [pP (esd p)] (.part (iP (C7 p.2))):=by
 refine AG 7 Tryz.func60 rfl rfl rfl fun w D=>?_
 try refine A3 ?_
 refine BB 0 rfl (Imp.pref_ref _) ?_
 refine A2 (AC rfl rfl rfl rfl rfl .nil) ?_
 try refine A3 ?_
 refine A2 (A9 rfl rfl rfl rfl rfl (A4 rfl rfl rfl (AE rfl (kn rfl)) (A4 rfl rfl rfl (AA rfl (kn rfl) off_77_3) (A4 rfl rfl rfl (AD rfl (by kernel_rfl) (hE) ⟨B7 (kn rfl) (Imp.ref_pref _),trivial⟩) (AC rfl rfl rfl rfl rfl .nil))))) ?_
 try refine A3 ?_
 exact A8 rfl rfl (.tmp (kn rfl) (.nil)) (Imp.of_eq rfl) rfl
theorem MV(p:Vl×Ed)(hE:EDp p.2):EF Tryz.prog [] 62 [pP (ekd p)] (.part (iP (C7 p.2))):=by
 refine AG 7 Tryz.func62 rfl rfl rfl fun w D=>?_
 try refine A3 ?_
 refine BB 0 rfl (Imp.pref_ref _) ?_
 refine A2 (AC rfl rfl rfl rfl rfl .nil) ?_
 try refine A3 ?_
 refine A2 (A9 rfl rfl rfl rfl rfl (A4 rfl rfl rfl (AE rfl (kn rfl)) (A4 rfl rfl rfl (AA rfl (kn rfl) off_61_1) (A4 rfl rfl rfl (AD rfl (by kernel_rfl) (hE) ⟨B7 (kn rfl) (Imp.ref_pref _),trivial⟩) (AC rfl rfl rfl rfl rfl .nil))))) ?_
 try refine A3 ?_
 exact A8 rfl rfl (.tmp (kn rfl) (.nil)) (Imp.of_eq rfl) rfl
theorem OR(e:Ed):C7 e=if e.kind=0 then 0 else 1+max (max (DS (e.fields.map fun p=>C7 p.2)) (DS (e.steps.map fun p=>C7 p.2))) (DS (e.keys.map fun p=>C7 p.2)):=by
 rw[IB,Ed.kids,List.map_append,List.map_append,G6,G6,List.map_map,List.map_map,List.map_map,Nat.max_assoc]
 rfl
set_option maxHeartbeats 1000000 in
theorem SF(e:Ed)(hs:e.Sm)(ih:∀ x∈e.kids,EDp x):EDp e:=by
 unfold EDp
 have hl:=hs.lens
 have hb:=hs.bounds.2
 have q:=OR e
 refine AG 25 Tryz.func28 rfl rfl rfl fun w D=>?_
 try refine A3 ?_
 refine BB 0 rfl (Imp.pref_ref _) ?_
 refine A2 (AC rfl rfl rfl rfl rfl .nil) ?_
 try refine A3 ?_
 refine A2 (A9 rfl rfl rfl rfl rfl (A4 rfl rfl rfl (AE rfl (kn rfl)) (A4 rfl rfl rfl (AA rfl (kn rfl) off_32_0) (A4 rfl rfl rfl (AF rfl (kn rfl) one_3) (A4 rfl rfl rfl (A6 rfl (kn rfl) (kn rfl) AP) .nil))))) ?_
 try refine A3 ?_
 refine AB rfl (fun c=>?_) (fun c=>?_)
 ·rw[if_pos (of_decide_eq_true c)]at q
  try refine A3 ?_
  refine A2 (AC rfl rfl rfl rfl rfl .nil) ?_
  try refine A3 ?_
  exact A8 rfl rfl (.tmp (kn rfl) (.nil)) (Imp.of_eq (by rw[q];rfl)) rfl
 rw[if_neg (of_decide_eq_false c)]at q
 try refine A3 ?_
 refine BD BF (by kernel_rfl) (A9 rfl rfl rfl rfl rfl (A4 rfl rfl rfl (AE rfl (kn rfl)) (A4 rfl rfl rfl (AA rfl (kn rfl) off_32_3) (A4 rfl rfl rfl (AF rfl (kn rfl) one_28) (A4 rfl rfl rfl (AD rfl (by kernel_rfl) (QQ 58 (by kernel_rfl) e.fields (by omega) (fun p=>C7 p.2) (fun x hx=>KT x (ih _ (Ed.kid_f hx)))) ⟨(kn rfl),⟨(kn rfl),trivial⟩⟩) (A9 rfl rfl rfl rfl rfl (A4 rfl rfl rfl (AE rfl (kn rfl)) (A4 rfl rfl rfl (AA rfl (kn rfl) off_32_7) (A4 rfl rfl rfl (AF rfl (kn rfl) one_29) (A4 rfl rfl rfl (AD rfl (by kernel_rfl) (QG 60 (by kernel_rfl) e.steps (by omega) (fun p=>C7 p.2) (fun x hx=>M9 x (ih _ (Ed.kid_s hx)))) ⟨(kn rfl),⟨(kn rfl),trivial⟩⟩) (A9 rfl rfl rfl rfl rfl (A4 rfl rfl rfl (AE rfl (kn rfl)) (A4 rfl rfl rfl (AA rfl (kn rfl) off_32_8) (A4 rfl rfl rfl (AF rfl (kn rfl) one_30) (A4 rfl rfl rfl (AD rfl (by kernel_rfl) (R2 62 (by kernel_rfl) e.keys (by omega) (fun p=>C7 p.2) (fun x hx=>MV x (ih _ (Ed.kid_k hx)))) ⟨(kn rfl),⟨(kn rfl),trivial⟩⟩) (A4 rfl rfl rfl (U5 rfl (kn rfl) (kn rfl) (kn rfl)) (A4 rfl rfl rfl (A6 rfl (kn rfl) (kn rfl) (AK (by first | omega | (dsimp only;omega)))) (AC rfl rfl rfl rfl rfl .nil)))))))))))))))))) ?_
 try refine A3 ?_
 exact A8 rfl rfl (.tmp (kn rfl) (.nil)) (U2 (by rw[q];push_cast;omega)) rfl
theorem U7(e:Ed):e.Sm->EDp e:=Ed.kids_ind (P:=fun e=>e.Sm->EDp e) (fun e ih h=>SF e h fun x hx=>ih x hx (h.kid hx)) e
theorem OM(e:Ed)(hs:e.Sm):EF Tryz.prog [] 11 [.many (ed e)] (.part (iP (C7 e))):=by
 refine AG 4 Tryz.func11 rfl rfl rfl fun w D=>?_
 try refine A3 ?_
 refine AI ?_
 refine B9 1 rfl rfl rfl rfl (kn rfl) rfl rfl rfl rfl ?_
 refine BX ?_
 refine AM ?_
 try refine A3 ?_
 refine I2 1 1 rfl rfl rfl ?_
 refine BB 1 rfl ((Imp.ptr_ref _ _).trans (Imp.ref_pref _)) ?_
 refine A2 (A4 rfl rfl rfl (AD rfl (by kernel_rfl) (U7 e hs) ⟨(kn rfl),trivial⟩) (AC rfl rfl rfl rfl rfl .nil)) ?_
 try refine A3 ?_
 exact A8 rfl rfl (.tmp (kn rfl) (.nil)) (Imp.of_eq rfl) rfl
def EEq(a:Ed):Prop:=∀ b:Ed,b.Sm->EF Tryz.prog [] 29 [pP (ed a),pP (ed b)] (.part (tP (eeq a b)))
set_option maxHeartbeats 1000000 in
theorem QE(a b:Ed)(ha:a.Sm)(hb:b.Sm):EF Tryz.prog [] 63 [pP (ed a),pP (ed b)] (.part (tP (DH a b))):=by
 refine AG 69 Tryz.func63 rfl rfl rfl fun w D=>?_
 try refine A3 ?_
 refine BB 0 rfl (Imp.pref_ref _) ?_
 refine BB 1 rfl (Imp.pref_ref _) ?_
 refine A2 (AC rfl rfl rfl rfl rfl .nil) ?_
 try refine A3 ?_
 refine BD BF (by kernel_rfl) (A9 rfl rfl rfl rfl rfl (A4 rfl rfl rfl (AE rfl (kn rfl)) (A4 rfl rfl rfl (AA rfl (kn rfl) off_32_0) (A4 rfl rfl rfl (AF rfl (kn rfl) one_3) (A9 rfl rfl rfl rfl rfl (A4 rfl rfl rfl (AE rfl (kn rfl)) (A4 rfl rfl rfl (AA rfl (kn rfl) off_32_0) (A4 rfl rfl rfl (AF rfl (kn rfl) one_3) (A4 rfl rfl rfl (A6 rfl (kn rfl) (kn rfl) AP) (A9 rfl rfl rfl rfl rfl (Walk.gd _ rfl rfl rfl (fun h=>AN rfl (kn rfl)) (Walk.gd _ rfl rfl rfl (fun h=>AE rfl (A0 rfl h)) (Walk.gd _ rfl rfl rfl (fun h=>AA rfl (A0 rfl h) off_32_1) (Walk.gd _ rfl rfl rfl (fun h=>B2 (vd a.old) 7 rfl (A0 rfl h) agg_27 sz_27 rfl rfl) (Walk.gd _ rfl rfl rfl (fun h=>AN rfl (kn rfl)) (Walk.gd _ rfl rfl rfl (fun h=>AE rfl (A0 rfl h)) (Walk.gd _ rfl rfl rfl (fun h=>AA rfl (A0 rfl h) off_32_1) (Walk.gd _ rfl rfl rfl (fun h=>B2 (vd b.old) 7 rfl (A0 rfl h) agg_27 sz_27 rfl rfl) (Walk.gd _ rfl rfl rfl (fun h=>AD rfl (by kernel_rfl) (EQ a.old b.old ha.short.1 hb.short.1) ⟨(A0 rfl h),⟨(A0 rfl h),trivial⟩⟩) (A4 rfl rfl rfl (AO rfl (kn rfl) (fun hb=>A0 rfl hb)) (A9 rfl rfl rfl rfl rfl (Walk.gd _ rfl rfl rfl (fun h=>AN rfl (kn rfl)) (Walk.gd _ rfl rfl rfl (fun h=>AE rfl (A0 rfl h)) (Walk.gd _ rfl rfl rfl (fun h=>AA rfl (A0 rfl h) off_32_2) (Walk.gd _ rfl rfl rfl (fun h=>B2 (vd a.new) 7 rfl (A0 rfl h) agg_27 sz_27 rfl rfl) (Walk.gd _ rfl rfl rfl (fun h=>AN rfl (kn rfl)) (Walk.gd _ rfl rfl rfl (fun h=>AE rfl (A0 rfl h)) (Walk.gd _ rfl rfl rfl (fun h=>AA rfl (A0 rfl h) off_32_2) (Walk.gd _ rfl rfl rfl (fun h=>B2 (vd b.new) 7 rfl (A0 rfl h) agg_27 sz_27 rfl rfl) (Walk.gd _ rfl rfl rfl (fun h=>AD rfl (by kernel_rfl) (EQ a.new b.new ha.short.2 hb.short.2) ⟨(A0 rfl h),⟨(A0 rfl h),trivial⟩⟩) (A4 rfl rfl rfl (AO rfl (kn rfl) (fun hb=>A0 rfl hb)) (A9 rfl rfl rfl rfl rfl (Walk.gd _ rfl rfl rfl (fun h=>AN rfl (kn rfl)) (Walk.gd _ rfl rfl rfl (fun h=>AE rfl (A0 rfl h)) (Walk.gd _ rfl rfl rfl (fun h=>AA rfl (A0 rfl h) off_32_4) (Walk.gd _ rfl rfl rfl (fun h=>AF rfl (A0 rfl h) one_4) (Walk.gd _ rfl rfl rfl (fun h=>AN rfl (kn rfl)) (Walk.gd _ rfl rfl rfl (fun h=>AE rfl (A0 rfl h)) (Walk.gd _ rfl rfl rfl (fun h=>AA rfl (A0 rfl h) off_32_4) (Walk.gd _ rfl rfl rfl (fun h=>AF rfl (A0 rfl h) one_4) (Walk.gd _ rfl rfl rfl (fun h=>A6 rfl (A0 rfl h) (A0 rfl h) (SV bool_4)) (A4 rfl rfl rfl (AO rfl (kn rfl) (fun hb=>A0 rfl hb)) (A9 rfl rfl rfl rfl rfl (Walk.gd _ rfl rfl rfl (fun h=>AN rfl (kn rfl)) (Walk.gd _ rfl rfl rfl (fun h=>AE rfl (A0 rfl h)) (Walk.gd _ rfl rfl rfl (fun h=>AA rfl (A0 rfl h) off_32_5) (Walk.gd _ rfl rfl rfl (fun h=>AF rfl (A0 rfl h) one_9) (Walk.gd _ rfl rfl rfl (fun h=>AN rfl (kn rfl)) (Walk.gd _ rfl rfl rfl (fun h=>AE rfl (A0 rfl h)) (Walk.gd _ rfl rfl rfl (fun h=>AA rfl (A0 rfl h) off_32_5) (Walk.gd _ rfl rfl rfl (fun h=>AF rfl (A0 rfl h) one_9) (Walk.gd _ rfl rfl rfl (fun h=>A6 rfl (A0 rfl h) (A0 rfl h) (CS)) (A4 rfl rfl rfl (AO rfl (kn rfl) (fun hb=>A0 rfl hb)) (A9 rfl rfl rfl rfl rfl (Walk.gd _ rfl rfl rfl (fun h=>AN rfl (kn rfl)) (Walk.gd _ rfl rfl rfl (fun h=>AE rfl (A0 rfl h)) (Walk.gd _ rfl rfl rfl (fun h=>AA rfl (A0 rfl h) off_32_6) (Walk.gd _ rfl rfl rfl (fun h=>AF rfl (A0 rfl h) one_9) (Walk.gd _ rfl rfl rfl (fun h=>AN rfl (kn rfl)) (Walk.gd _ rfl rfl rfl (fun h=>AE rfl (A0 rfl h)) (Walk.gd _ rfl rfl rfl (fun h=>AA rfl (A0 rfl h) off_32_6) (Walk.gd _ rfl rfl rfl (fun h=>AF rfl (A0 rfl h) one_9) (Walk.gd _ rfl rfl rfl (fun h=>A6 rfl (A0 rfl h) (A0 rfl h) (CS)) (A4 rfl rfl rfl (AO rfl (kn rfl) (fun hb=>A0 rfl hb)) (AC rfl rfl rfl rfl rfl .nil))))))))))))))))))))))))))))))))))))))))))))))))))))))))))))))))) ?_
 try refine A3 ?_
 exact A8 rfl rfl (.tmp (kn rfl) (.nil)) (AZ rfl) rfl
theorem P1(p q:Int×Ed)(hq:q.2.Sm)(hE:EEq p.2):EF Tryz.prog [] 65 [pP (efd p),pP (efd q)] (.part (tP (H7 p q))):=by
 refine AG 23 Tryz.func65 rfl rfl rfl fun w D=>?_
 try refine A3 ?_
 refine BB 0 rfl (Imp.pref_ref _) ?_
 refine BB 1 rfl (Imp.pref_ref _) ?_
 refine A2 (AC rfl rfl rfl rfl rfl .nil) ?_
 try refine A3 ?_
 refine BD BF (by kernel_rfl) (A9 rfl rfl rfl rfl rfl (A4 rfl rfl rfl (AE rfl (kn rfl)) (A4 rfl rfl rfl (AA rfl (kn rfl) off_57_0) (A4 rfl rfl rfl (AF rfl (kn rfl) one_3) (A9 rfl rfl rfl rfl rfl (A4 rfl rfl rfl (AE rfl (kn rfl)) (A4 rfl rfl rfl (AA rfl (kn rfl) off_57_0) (A4 rfl rfl rfl (AF rfl (kn rfl) one_3) (A4 rfl rfl rfl (A6 rfl (kn rfl) (kn rfl) AP) (A9 rfl rfl rfl rfl rfl (Walk.gd _ rfl rfl rfl (fun h=>AN rfl (kn rfl)) (Walk.gd _ rfl rfl rfl (fun h=>AE rfl (A0 rfl h)) (Walk.gd _ rfl rfl rfl (fun h=>AA rfl (A0 rfl h) off_57_1) (Walk.gd _ rfl rfl rfl (fun h=>AN rfl (kn rfl)) (Walk.gd _ rfl rfl rfl (fun h=>AE rfl (A0 rfl h)) (Walk.gd _ rfl rfl rfl (fun h=>AA rfl (A0 rfl h) off_57_1) (Walk.gd _ rfl rfl rfl (fun h=>AD rfl (by kernel_rfl) (hE q.2 hq) ⟨B7 (A0 rfl h) (Imp.ref_pref _),⟨B7 (A0 rfl h) (Imp.ref_pref _),trivial⟩⟩) (A4 rfl rfl rfl (AO rfl (kn rfl) (fun hb=>A0 rfl hb)) (AC rfl rfl rfl rfl rfl .nil))))))))))))))))))) ?_
 try refine A3 ?_
 exact A8 rfl rfl (.tmp (kn rfl) (.nil)) (AZ rfl) rfl
theorem QD(p q:(Int×Int×Vl)×Ed)(h1:VSm 80 p.1.2.2)(h2:VSm 80 q.1.2.2)(hq:q.2.Sm)(hE:EEq p.2):EF Tryz.prog [] 67 [pP (esd p),pP (esd q)] (.part (tP (KG p q))):=by
 refine AG 45 Tryz.func67 rfl rfl rfl fun w D=>?_
 try refine A3 ?_
 refine BB 0 rfl (Imp.pref_ref _) ?_
 refine BB 1 rfl (Imp.pref_ref _) ?_
 refine A2 (AC rfl rfl rfl rfl rfl .nil) ?_
 try refine A3 ?_
 refine BD BF (by kernel_rfl) (A9 rfl rfl rfl rfl rfl (A4 rfl rfl rfl (AE rfl (kn rfl)) (A4 rfl rfl rfl (AA rfl (kn rfl) off_77_0) (A4 rfl rfl rfl (AF rfl (kn rfl) one_3) (A9 rfl rfl rfl rfl rfl (A4 rfl rfl rfl (AE rfl (kn rfl)) (A4 rfl rfl rfl (AA rfl (kn rfl) off_77_0) (A4 rfl rfl rfl (AF rfl (kn rfl) one_3) (A4 rfl rfl rfl (A6 rfl (kn rfl) (kn rfl) AP) (A9 rfl rfl rfl rfl rfl (Walk.gd _ rfl rfl rfl (fun h=>AN rfl (kn rfl)) (Walk.gd _ rfl rfl rfl (fun h=>AE rfl (A0 rfl h)) (Walk.gd _ rfl rfl rfl (fun h=>AA rfl (A0 rfl h) off_77_1) (Walk.gd _ rfl rfl rfl (fun h=>AF rfl (A0 rfl h) one_3) (Walk.gd _ rfl rfl rfl (fun h=>AN rfl (kn rfl)) (Walk.gd _ rfl rfl rfl (fun h=>AE rfl (A0 rfl h)) (Walk.gd _ rfl rfl rfl (fun h=>AA rfl (A0 rfl h) off_77_1) (Walk.gd _ rfl rfl rfl (fun h=>AF rfl (A0 rfl h) one_3) (Walk.gd _ rfl rfl rfl (fun h=>A6 rfl (A0 rfl h) (A0 rfl h) AP) (A4 rfl rfl rfl (AO rfl (kn rfl) (fun hb=>A0 rfl hb)) (A9 rfl rfl rfl rfl rfl (Walk.gd _ rfl rfl rfl (fun h=>AN rfl (kn rfl)) (Walk.gd _ rfl rfl rfl (fun h=>AE rfl (A0 rfl h)) (Walk.gd _ rfl rfl rfl (fun h=>AA rfl (A0 rfl h) off_77_2) (Walk.gd _ rfl rfl rfl (fun h=>B2 (vd p.1.2.2) 7 rfl (A0 rfl h) agg_27 sz_27 rfl rfl) (Walk.gd _ rfl rfl rfl (fun h=>AN rfl (kn rfl)) (Walk.gd _ rfl rfl rfl (fun h=>AE rfl (A0 rfl h)) (Walk.gd _ rfl rfl rfl (fun h=>AA rfl (A0 rfl h) off_77_2) (Walk.gd _ rfl rfl rfl (fun h=>B2 (vd q.1.2.2) 7 rfl (A0 rfl h) agg_27 sz_27 rfl rfl) (Walk.gd _ rfl rfl rfl (fun h=>AD rfl (by kernel_rfl) (EQ p.1.2.2 q.1.2.2 (h1.short (by decide)) (h2.short (by decide))) ⟨(A0 rfl h),⟨(A0 rfl h),trivial⟩⟩) (A4 rfl rfl rfl (AO rfl (kn rfl) (fun hb=>A0 rfl hb)) (A9 rfl rfl rfl rfl rfl (Walk.gd _ rfl rfl rfl (fun h=>AN rfl (kn rfl)) (Walk.gd _ rfl rfl rfl (fun h=>AE rfl (A0 rfl h)) (Walk.gd _ rfl rfl rfl (fun h=>AA rfl (A0 rfl h) off_77_3) (Walk.gd _ rfl rfl rfl (fun h=>AN rfl (kn rfl)) (Walk.gd _ rfl rfl rfl (fun h=>AE rfl (A0 rfl h)) (Walk.gd _ rfl rfl rfl (fun h=>AA rfl (A0 rfl h) off_77_3) (Walk.gd _ rfl rfl rfl (fun h=>AD rfl (by kernel_rfl) (hE q.2 hq) ⟨B7 (A0 rfl h) (Imp.ref_pref _),⟨B7 (A0 rfl h) (Imp.ref_pref _),trivial⟩⟩) (A4 rfl rfl rfl (AO rfl (kn rfl) (fun hb=>A0 rfl hb)) (AC rfl rfl rfl rfl rfl .nil))))))))))))))))))))))))))))))))))))))))) ?_
 try refine A3 ?_
 exact A8 rfl rfl (.tmp (kn rfl) (.nil)) (AZ rfl) rfl
theorem RF(p q:Vl×Ed)(h1:VSm 20 p.1)(h2:VSm 20 q.1)(hq:q.2.Sm)(hE:EEq p.2):EF Tryz.prog [] 69 [pP (ekd p),pP (ekd q)] (.part (tP (OL p q))):=by
 refine AG 23 Tryz.func69 rfl rfl rfl fun w D=>?_
 try refine A3 ?_
 refine BB 0 rfl (Imp.pref_ref _) ?_
 refine BB 1 rfl (Imp.pref_ref _) ?_
 refine A2 (AC rfl rfl rfl rfl rfl .nil) ?_
 try refine A3 ?_
 refine BD BF (by kernel_rfl) (A9 rfl rfl rfl rfl rfl (A4 rfl rfl rfl (AE rfl (kn rfl)) (A4 rfl rfl rfl (AA rfl (kn rfl) off_61_0) (A4 rfl rfl rfl (B2 (vd p.1) 7 rfl (kn rfl) agg_27 sz_27 rfl rfl) (A9 rfl rfl rfl rfl rfl (A4 rfl rfl rfl (AE rfl (kn rfl)) (A4 rfl rfl rfl (AA rfl (kn rfl) off_61_0) (A4 rfl rfl rfl (B2 (vd q.1) 7 rfl (kn rfl) agg_27 sz_27 rfl rfl) (A4 rfl rfl rfl (AD rfl (by kernel_rfl) (EQ p.1 q.1 (h1.short (by decide)) (h2.short (by decide))) ⟨(kn rfl),⟨(kn rfl),trivial⟩⟩) (A9 rfl rfl rfl rfl rfl (Walk.gd _ rfl rfl rfl (fun h=>AN rfl (kn rfl)) (Walk.gd _ rfl rfl rfl (fun h=>AE rfl (A0 rfl h)) (Walk.gd _ rfl rfl rfl (fun h=>AA rfl (A0 rfl h) off_61_1) (Walk.gd _ rfl rfl rfl (fun h=>AN rfl (kn rfl)) (Walk.gd _ rfl rfl rfl (fun h=>AE rfl (A0 rfl h)) (Walk.gd _ rfl rfl rfl (fun h=>AA rfl (A0 rfl h) off_61_1) (Walk.gd _ rfl rfl rfl (fun h=>AD rfl (by kernel_rfl) (hE q.2 hq) ⟨B7 (A0 rfl h) (Imp.ref_pref _),⟨B7 (A0 rfl h) (Imp.ref_pref _),trivial⟩⟩) (A4 rfl rfl rfl (AO rfl (kn rfl) (fun hb=>A0 rfl hb)) (AC rfl rfl rfl rfl rfl .nil))))))))))))))))))) ?_
 try refine A3 ?_
 exact A8 rfl rfl (.tmp (kn rfl) (.nil)) (AZ rfl) rfl
set_option maxHeartbeats 1000000 in
theorem R5(a:Ed)(ha:a.Sm)(ih:∀ x∈a.kids,EEq x):EEq a:=by
 intro b hb
 have la:=ha.lens
 have lb:=hb.lens
 obtain⟨_,_,_,_,_,_,a3,a4⟩:=ha.ok.all
 obtain⟨_,_,_,_,_,_,b3,b4⟩:=hb.ok.all
 have q:=P6 a b
 refine AG 41 Tryz.func29 rfl rfl rfl fun w D=>?_
 try refine A3 ?_
 refine BB 0 rfl (Imp.pref_ref _) ?_
 refine BB 1 rfl (Imp.pref_ref _) ?_
 refine A2 (AC rfl rfl rfl rfl rfl .nil) ?_
 try refine A3 ?_
 refine BD BF (by kernel_rfl) (A9 rfl rfl rfl rfl rfl (A9 rfl rfl rfl rfl rfl (A4 rfl rfl rfl (AD rfl (by kernel_rfl) (QE a b ha hb) ⟨B7 (kn rfl) (Imp.ref_pref _),⟨B7 (kn rfl) (Imp.ref_pref _),trivial⟩⟩) (A9 rfl rfl rfl rfl rfl (Walk.gd _ rfl rfl rfl (fun h=>AN rfl (kn rfl)) (Walk.gd _ rfl rfl rfl (fun h=>AE rfl (A0 rfl h)) (Walk.gd _ rfl rfl rfl (fun h=>AA rfl (A0 rfl h) off_32_3) (Walk.gd _ rfl rfl rfl (fun h=>AF rfl (A0 rfl h) one_28) (Walk.gd _ rfl rfl rfl (fun h=>AN rfl (kn rfl)) (Walk.gd _ rfl rfl rfl (fun h=>AE rfl (A0 rfl h)) (Walk.gd _ rfl rfl rfl (fun h=>AA rfl (A0 rfl h) off_32_3) (Walk.gd _ rfl rfl rfl (fun h=>AF rfl (A0 rfl h) one_28) (Walk.gd _ rfl rfl rfl (fun h=>AD rfl (by kernel_rfl) (PA 65 (by kernel_rfl) a.fields b.fields (by omega) (by omega) H7 (fun x hx y hy=>P1 x y (hb.kid (Ed.kid_f hy)) (ih _ (Ed.kid_f hx)))) ⟨(A0 rfl h),⟨(A0 rfl h),⟨(kn rfl),trivial⟩⟩⟩) (A4 rfl rfl rfl (AO rfl (kn rfl) (fun hb=>A0 rfl hb)) (A9 rfl rfl rfl rfl rfl (Walk.gd _ rfl rfl rfl (fun h=>AN rfl (kn rfl)) (Walk.gd _ rfl rfl rfl (fun h=>AE rfl (A0 rfl h)) (Walk.gd _ rfl rfl rfl (fun h=>AA rfl (A0 rfl h) off_32_7) (Walk.gd _ rfl rfl rfl (fun h=>AF rfl (A0 rfl h) one_29) (Walk.gd _ rfl rfl rfl (fun h=>AN rfl (kn rfl)) (Walk.gd _ rfl rfl rfl (fun h=>AE rfl (A0 rfl h)) (Walk.gd _ rfl rfl rfl (fun h=>AA rfl (A0 rfl h) off_32_7) (Walk.gd _ rfl rfl rfl (fun h=>AF rfl (A0 rfl h) one_29) (Walk.gd _ rfl rfl rfl (fun h=>AD rfl (by kernel_rfl) (OJ 67 (by kernel_rfl) a.steps b.steps (by omega) (by omega) KG (fun x hx y hy=>QD x y (a3 x hx).2.2.2 (b3 y hy).2.2.2 (hb.kid (Ed.kid_s hy)) (ih _ (Ed.kid_s hx)))) ⟨(A0 rfl h),⟨(A0 rfl h),⟨(kn rfl),trivial⟩⟩⟩) (A4 rfl rfl rfl (AO rfl (kn rfl) (fun hb=>A0 rfl hb)) (A9 rfl rfl rfl rfl rfl (Walk.gd _ rfl rfl rfl (fun h=>AN rfl (kn rfl)) (Walk.gd _ rfl rfl rfl (fun h=>AE rfl (A0 rfl h)) (Walk.gd _ rfl rfl rfl (fun h=>AA rfl (A0 rfl h) off_32_8) (Walk.gd _ rfl rfl rfl (fun h=>AF rfl (A0 rfl h) one_30) (Walk.gd _ rfl rfl rfl (fun h=>AN rfl (kn rfl)) (Walk.gd _ rfl rfl rfl (fun h=>AE rfl (A0 rfl h)) (Walk.gd _ rfl rfl rfl (fun h=>AA rfl (A0 rfl h) off_32_8) (Walk.gd _ rfl rfl rfl (fun h=>AF rfl (A0 rfl h) one_30) (Walk.gd _ rfl rfl rfl (fun h=>AD rfl (by kernel_rfl) (PB 69 (by kernel_rfl) a.keys b.keys (by omega) (by omega) OL (fun x hx y hy=>RF x y (a4 x hx) (b4 y hy) (hb.kid (Ed.kid_k hy)) (ih _ (Ed.kid_k hx)))) ⟨(A0 rfl h),⟨(A0 rfl h),⟨(kn rfl),trivial⟩⟩⟩) (A4 rfl rfl rfl (AO rfl (kn rfl) (fun hb=>A0 rfl hb)) (AC rfl rfl rfl rfl rfl .nil))))))))))))))))))))))))))))))))))))) ?_
 try refine A3 ?_
 exact A8 rfl rfl (.tmp (kn rfl) (.nil)) (AZ q.symm) rfl
theorem TC(a:Ed):a.Sm->EEq a:=Ed.kids_ind (P:=fun a=>a.Sm->EEq a) (fun a ih h=>R5 a h fun x hx=>ih x hx (h.kid hx)) a
theorem LL(a b:Ed)(ha:a.Sm)(hb:b.Sm):EF Tryz.prog [] 13 [.many (ed a),.many (ed b)] (.part (tP (eeq a b))):=by
 refine AG 6 Tryz.func13 rfl rfl rfl fun w D=>?_
 try refine A3 ?_
 refine AI ?_
 refine B9 2 rfl rfl rfl rfl (kn rfl) rfl rfl rfl rfl ?_
 refine B9 3 rfl rfl rfl rfl (kn rfl) rfl rfl rfl rfl ?_
 refine BX ?_
 refine AM ?_
 try refine A3 ?_
 refine I2 2 2 rfl rfl rfl ?_
 refine I2 3 3 rfl rfl rfl ?_
 refine BB 2 rfl ((Imp.ptr_ref _ _).trans (Imp.ref_pref _)) ?_
 refine BB 3 rfl ((Imp.ptr_ref _ _).trans (Imp.ref_pref _)) ?_
 refine A2 (A4 rfl rfl rfl (AD rfl (by kernel_rfl) (TC a ha b hb) ⟨(kn rfl),⟨(kn rfl),trivial⟩⟩) (AC rfl rfl rfl rfl rfl .nil)) ?_
 try refine A3 ?_
 exact A8 rfl rfl (.tmp (kn rfl) (.nil)) (Imp.of_eq rfl) rfl
def NC(a b:Vl):Ed:=if CP a b=true then K8 else .mk 1 a b [] false [] [] [] []
theorem PD(a b:Vl)(ha:B8 a)(hb:B8 b):EF Tryz.prog [] 15 [.many (vd a),.many (vd b)] (.part (.many (ed (NC a b)))):=by
 refine AG 12 Tryz.func15 rfl rfl rfl fun w D=>?_
 try refine A3 ?_
 refine AI ?_
 refine B9 2 rfl rfl rfl rfl (kn rfl) rfl rfl rfl rfl ?_
 refine B9 3 rfl rfl rfl rfl (kn rfl) rfl rfl rfl rfl ?_
 refine AW 4 [.is (.int .i64 0),.is (.int .i64 0),.is (.int .u64 0),.is (.string ⟨#[]⟩),.is (.slice none 0 0),.is (.string ⟨#[]⟩),.is (.slice none 0 0),.is (.slice none 0 0),.is (.int .i64 0),.is (.int .u64 0),.is (.string ⟨#[]⟩),.is (.slice none 0 0),.is (.string ⟨#[]⟩),.is (.slice none 0 0),.is (.slice none 0 0),.is (.slice none 0 0),.is (.bool false),.is (.string ⟨#[]⟩),.is (.string ⟨#[]⟩),.is (.slice none 0 0),.is (.slice none 0 0)] rfl rfl rfl rfl zr_32 (fun w D M V=>⟨rfl,fun j x v h1 h2=>AV _ h1 h2 rfl⟩) rfl rfl rfl rfl ?_
 refine AM ?_
 try refine A3 ?_
 refine A2 (A4 rfl rfl rfl (A7 (ds:=[_,_,_,_,_,_,_]) 7 rfl (kn rfl) rfl rfl agg_27 sz_27 rfl) (A4 rfl rfl rfl (A7 (ds:=[_,_,_,_,_,_,_]) 7 rfl (kn rfl) rfl rfl agg_27 sz_27 rfl) (A4 rfl rfl rfl (AD rfl (by kernel_rfl) (EQ a b ha hb) ⟨(kn rfl),⟨(kn rfl),trivial⟩⟩) .nil))) ?_
 try refine A3 ?_
 refine AB rfl (fun c=>?_) (fun c=>?_)
 ·have q:NC a b=K8:=if_pos c
  try refine A3 ?_
  refine AI ?_
  refine AQ (CD (ds:=[_,_,_,_,.row 8 0 [],_,.row 7 0 [],.row 14 0 [],_,_,_,.row 8 0 [],_,.row 7 0 [],.row 14 0 [],.row 22 0 [],_,_,_,.row 30 0 [],.row 28 0 []]) [] rfl trivial rfl pl_32 zr_32 (fun w D=>.cons (.cell _) (.cons (.cell _) (.cons (.cell _) (.cons (.cell _) (.cons (.none _ _ _) (.cons (.cell _) (.cons (.none _ _ _) (.cons (.none _ _ _) (.cons (.cell _) (.cons (.cell _) (.cons (.cell _) (.cons (.none _ _ _) (.cons (.cell _) (.cons (.none _ _ _) (.cons (.none _ _ _) (.cons (.none _ _ _) (.cons (.cell _) (.cons (.cell _) (.cons (.cell _) (.cons (.none _ _ _) (.cons (.none _ _ _) (.nil _ _)))))))))))))))))))))) rfl) ?_
  refine AT rfl rfl rfl (kn rfl) rfl (kn rfl) rfl rfl sz_32 ?_
  refine AM ?_
  try refine A3 ?_
  exact A8 rfl rfl (.cell rfl rfl rfl agg_32 sz_32 rfl (.nil)) (Imp.of_eq (by rw[q];rfl)) rfl
 have q:NC a b=.mk 1 a b [] false [] [] [] []:=if_neg (by rw[CP,c];decide)
 try refine A3 ?_
 refine AI ?_
 refine AQ (A7 (ds:=[_,_,_,_,_,_,_]) 7 rfl (kn rfl) rfl rfl agg_27 sz_27 rfl) ?_
 refine AQ (A7 (ds:=[_,_,_,_,_,_,_]) 7 rfl (kn rfl) rfl rfl agg_27 sz_27 rfl) ?_
 refine AQ (CD (ds:=[_,_,_,_,_,_,_,_,_,_,_,_,_,_,_,.row 22 0 [],_,_,_,.row 30 0 [],.row 28 0 []]) [(0,_),(1,_),(2,_)] rfl ⟨rfl,(kn rfl),⟨rfl,(kn rfl),⟨rfl,(kn rfl),trivial⟩⟩⟩ rfl pl_32 zr_32 (fun w D=>.cons (.cell _) (.cons (.cell _) (.cons (.cell _) (.cons (.cell _) (.cons (.cell _) (.cons (.cell _) (.cons (.cell _) (.cons (.cell _) (.cons (.cell _) (.cons (.cell _) (.cons (.cell _) (.cons (.cell _) (.cons (.cell _) (.cons (.cell _) (.cons (.cell _) (.cons (.none _ _ _) (.cons (.cell _) (.cons (.cell _) (.cons (.cell _) (.cons (.none _ _ _) (.cons (.none _ _ _) (.nil _ _)))))))))))))))))))))) rfl) ?_
 refine AT rfl rfl rfl (kn rfl) rfl (kn rfl) rfl rfl sz_32 ?_
 refine AM ?_
 try refine A3 ?_
 exact A8 rfl rfl (.cell rfl rfl rfl agg_32 sz_32 rfl (.nil)) (Imp.of_eq (by rw[q];rfl)) rfl
theorem RU{P:Program}{f:FuncId}{ps:List Part}{v:Value}{w:World}{vs:List Value}(h:EF P [] f ps (.is v))(hp:PsFit w (Old w) ps vs):Calls P f vs.toArray w fun e w'=>e=.returned v/\Below w.heap.size w w':=
 (h w (Old w) vs (fun g hg=>hg) (fun _ _ h=>by cases h) hp).mono fun e w' ⟨u,y,h1,h2,h3,h4⟩=>by
  subst h2
  refine⟨?_,h3⟩
  rw[h1,VR.is_eq (h4 (fun _=>0) (fun _=>undef))]
theorem NM(k:Int)(n:Nat)(h1 : -9223372036854775808<=k)(h2:k<9223372036854775808)(h3:n<18446744073709551616):VSm 80 (.mk k n [] [] [] [] []):=
 ⟨(LK k n h1 h2 h3).fine,(LK k n h1 h2 h3).tx,by rw[CH];simp[Vl.list,Vl.fields,Vl.pairs,lnodes,fnodes,pnodes]⟩
theorem NY(k:Int)(o n:Vl)(hk:I64 k)(ho:VSm 80 o)(hn:VSm 80 n):(Ed.mk k o n [] false [] [] [] []).Sm:=
 ⟨.mk _ hk ho hn (Nat.zero_le _) (Nat.zero_le _) (fun _ h=>by cases h) (fun _ h=>by cases h) (fun _ h=>by cases h) (fun _ h=>by cases h),by rw[E1];simp[Ed.fields,Ed.steps,Ed.keys]⟩
theorem O8(a b:Vl):BU (.mk 1 a b [] false [] [] [] [])=(vright a&&vright b && !CP a b):=by
 rw[F6]
 simp[DF,Ed.kind,Ed.old,Ed.new,Ed.fields,Ed.rests,Ed.ro,Ed.rn,Ed.steps,Ed.keys]
theorem P0(n:Nat):vright (NE n)=true:=by simp[NE,vright,fright,lright,pright,vplain,Vl.kind,Vl.num,Vl.text,Vl.fields,Vl.rest,Vl.list,Vl.pairs]
theorem NZ:vright CE=true:=by simp[CE,vright,fright,lright,pright,vplain,Vl.kind,Vl.num,Vl.text,Vl.fields,Vl.rest,Vl.list,Vl.pairs]
theorem NU:CP CE (NE 1)=false:=by
 unfold CP
 rw[EJ]
 rfl
def exE:Ed:=.mk 1 CE (NE 1) [] false [] [] [] []
theorem RY:NC CE (NE 1)=exE:=by
 unfold NC
 rw[NU]
 rfl
theorem V3:(decide ((1:Int)=1)&&decide (((C2 exE:Nat):Int)=2)&&BU exE && !BU (.mk 9 CE CE [] false [] [] [] []))=true:=by
 have h1:C2 exE=2:=by
  rw[HN]
  simp[exE,Ed.kind,Ed.old,Ed.new,Ed.fields,Ed.steps,Ed.keys,CE,NE,vsize,lsize,fsize,psize]
 have h2:BU exE=true:=by
  unfold exE
  rw[O8,NZ,P0,NU]
  rfl
 have h3:BU (.mk 9 CE CE [] false [] [] [] [])=false:=JS (.inr (by decide))
 rw[h1,h2,h3]
 rfl
set_option maxHeartbeats 1000000 in
theorem P4:EF Tryz.prog [] 4 [] (.part (tP true)):=by
 have z0:VSm 80 CE:=NM 0 0 (by decide) (by decide) (by decide)
 have z1:VSm 80 (NE 1):=NM 1 1 (by decide) (by decide) (by decide)
 have e1:exE.Sm:=NY 1 _ _ ⟨by decide,by decide⟩ z0 z1
 have e9:(Ed.mk 9 CE CE [] false [] [] [] []).Sm:=NY 9 _ _ ⟨by decide,by decide⟩ z0 z0
 refine AG 22 Tryz.func4 rfl rfl rfl fun w D=>?_
 try refine A3 ?_
 refine A2 (AC rfl rfl rfl rfl rfl .nil) ?_
 try refine A3 ?_
 refine AI ?_
 refine AQ (CD (ds:=[_,_,_,.row 8 0 [],_,.row 7 0 [],.row 14 0 []]) [] rfl trivial rfl pl_27 zr_27 (fun w D=>.cons (.cell _) (.cons (.cell _) (.cons (.cell _) (.cons (.none _ _ _) (.cons (.cell _) (.cons (.none _ _ _) (.cons (.none _ _ _) (.nil _ _)))))))) rfl) ?_
 refine AQ (CD (ds:=[_,_,_,.row 8 0 [],_,.row 7 0 [],.row 14 0 []]) [(0,_),(1,_)] rfl ⟨rfl,(kn rfl),⟨rfl,(kn rfl),trivial⟩⟩ rfl pl_27 zr_27 (fun w D=>.cons (.cell _) (.cons (.cell _) (.cons (.cell _) (.cons (.none _ _ _) (.cons (.cell _) (.cons (.none _ _ _) (.cons (.none _ _ _) (.nil _ _)))))))) rfl) ?_
 refine AQ (AD rfl (by kernel_rfl) (PD CE (NE 1) (z0.short (by decide)) (z1.short (by decide))) ⟨(kn rfl),⟨(kn rfl),trivial⟩⟩) ?_
 refine AW 1 [.is (.int .i64 0),.is (.int .i64 0),.is (.int .u64 0),.is (.string ⟨#[]⟩),.is (.slice none 0 0),.is (.string ⟨#[]⟩),.is (.slice none 0 0),.is (.slice none 0 0),.is (.int .i64 0),.is (.int .u64 0),.is (.string ⟨#[]⟩),.is (.slice none 0 0),.is (.string ⟨#[]⟩),.is (.slice none 0 0),.is (.slice none 0 0),.is (.slice none 0 0),.is (.bool false),.is (.string ⟨#[]⟩),.is (.string ⟨#[]⟩),.is (.slice none 0 0),.is (.slice none 0 0)] rfl rfl rfl rfl zr_32 (fun w D M V=>⟨rfl,fun j x v h1 h2=>AV _ h1 h2 rfl⟩) rfl rfl rfl rfl ?_
 refine AT rfl rfl rfl (kn rfl) rfl (kn rfl) rfl rfl sz_32 ?_
 refine AM ?_
 try refine A3 ?_
 rw[RY]
 refine A2 (A4 rfl rfl rfl (A1 rfl (kn rfl) off_32_0) (A4 rfl rfl rfl (A5 rfl (kn rfl) rfl rfl one_3) (A4 rfl rfl rfl (A6 rfl (kn rfl) (kn rfl) AP) (A9 rfl rfl rfl rfl rfl (Walk.gd _ rfl rfl rfl (fun h=>A7 (ds:=[_,_,_,_,_,_,_,_,_,_,_,_,_,_,_,_,_,_,_,_,_]) 21 rfl (kn rfl) rfl rfl agg_32 sz_32 rfl) (Walk.gd _ rfl rfl rfl (fun h=>AD rfl (by kernel_rfl) (LE exE e1) ⟨(A0 rfl h),trivial⟩) (Walk.gd _ rfl rfl rfl (fun h=>A6 rfl (A0 rfl h) (kn rfl) AP) (A4 rfl rfl rfl (AO rfl (kn rfl) (fun hb=>A0 rfl hb)) (A9 rfl rfl rfl rfl rfl (Walk.gd _ rfl rfl rfl (fun h=>A7 (ds:=[_,_,_,_,_,_,_,_,_,_,_,_,_,_,_,_,_,_,_,_,_]) 21 rfl (kn rfl) rfl rfl agg_32 sz_32 rfl) (Walk.gd _ rfl rfl rfl (fun h=>AD rfl (by kernel_rfl) (ID exE e1) ⟨(A0 rfl h),trivial⟩) (A4 rfl rfl rfl (AO rfl (kn rfl) (fun hb=>A0 rfl hb)) (A9 rfl rfl rfl rfl rfl (Walk.gd _ rfl rfl rfl (fun h=>CD (ds:=[_,_,_,_,.row 8 0 [],_,.row 7 0 [],.row 14 0 [],_,_,_,.row 8 0 [],_,.row 7 0 [],.row 14 0 [],.row 22 0 [],_,_,_,.row 30 0 [],.row 28 0 []]) [(0,_)] rfl ⟨rfl,(kn rfl),trivial⟩ rfl pl_32 zr_32 (fun w D=>.cons (.cell _) (.cons (.cell _) (.cons (.cell _) (.cons (.cell _) (.cons (.none _ _ _) (.cons (.cell _) (.cons (.none _ _ _) (.cons (.none _ _ _) (.cons (.cell _) (.cons (.cell _) (.cons (.cell _) (.cons (.none _ _ _) (.cons (.cell _) (.cons (.none _ _ _) (.cons (.none _ _ _) (.cons (.none _ _ _) (.cons (.cell _) (.cons (.cell _) (.cons (.cell _) (.cons (.none _ _ _) (.cons (.none _ _ _) (.nil _ _)))))))))))))))))))))) rfl) (Walk.gd _ rfl rfl rfl (fun h=>AD rfl (by kernel_rfl) (ID (.mk 9 CE CE [] false [] [] [] []) e9) ⟨(A0 rfl h),trivial⟩) (Walk.gd _ rfl rfl rfl (fun h=>BZ rfl (A0 rfl h)) (A4 rfl rfl rfl (AO rfl (kn rfl) (fun hb=>A0 rfl hb)) (AC rfl rfl rfl rfl rfl .nil)))))))))))))))))) ?_
 try refine A3 ?_
 exact A8 rfl rfl (.tmp (kn rfl) (.nil)) (AZ V3) rfl
end Go.Proofs.YtojdpgeeajaojaaGreat
