/- Part 19. Conditions: as each theorem says. -/
import Derived.Test.YtecfdcdkkgmkpaaIT18
import Derived.Test.YtecfdcdkkgmkpaaProg
set_option maxRecDepth 100000
namespace Go.Proofs.Ytecfdcdkkgmkpaa
open Go.RowKit
theorem WA{a b:Int}(h:a=b):Imp (JK [.one (.cell (.int .i64 a))]) (.part (iP b)):=Imp.of_eq (by rw[h];rfl)
theorem Ed.Sm.short{e:Ed}(h:e.Sm):B7 e.old/\B7 e.new:=by
 obtain⟨_,a,b,_⟩:=h.ok.all
 exact⟨a.short (by decide),b.short (by decide)⟩
def ESz(e:Ed):Prop:=EF Try.prog [] 30 [pP (ed e)] (.part (iP (BU e)))
theorem T3(e:Ed)(hs:e.Sm):EF Try.prog [] 64 [pP (ed e)] (.part (iP ((vsize e.old:Int)+(vsize e.new:Int)))):=by
 obtain⟨_,o1,o2,_⟩:=hs.ok.all
 have a1:=E1 o1
 have a2:=E1 o2
 refine AF 14 Try.func64 rfl rfl rfl fun w D=>?_
 try refine A1 ?_
 refine AX 0 rfl (Imp.pref_ref _) ?_
 refine A0 (AC rfl rfl rfl rfl rfl .nil) ?_
 try refine A1 ?_
 refine BZ C8 (by kernel_rfl) (A8 rfl rfl rfl rfl rfl (A3 rfl rfl rfl (AA rfl (kn rfl)) (A3 rfl rfl rfl (A6 rfl (kn rfl) off_32_1) (A3 rfl rfl rfl (AZ (vd e.old) 7 rfl (kn rfl) agg_27 sz_27 rfl rfl) (A3 rfl rfl rfl (AG rfl (by kernel_rfl) (IN e.old hs.short.1) ⟨(kn rfl),trivial⟩) (A8 rfl rfl rfl rfl rfl (A3 rfl rfl rfl (AA rfl (kn rfl)) (A3 rfl rfl rfl (A6 rfl (kn rfl) off_32_2) (A3 rfl rfl rfl (AZ (vd e.new) 7 rfl (kn rfl) agg_27 sz_27 rfl rfl) (A3 rfl rfl rfl (AG rfl (by kernel_rfl) (IN e.new hs.short.2) ⟨(kn rfl),trivial⟩) (A3 rfl rfl rfl (A9 rfl (kn rfl) (kn rfl) (AO (by first | omega | (dsimp only;omega)))) (AC rfl rfl rfl rfl rfl .nil)))))))))))) ?_
 try refine A1 ?_
 exact A7 rfl rfl (.tmp (kn rfl) (.nil)) (Imp.of_eq rfl) rfl
theorem N5(p:Int×Ed)(hE:ESz p.2):EF Try.prog [] 66 [pP (efd p)] (.part (iP (BU p.2))):=by
 refine AF 7 Try.func66 rfl rfl rfl fun w D=>?_
 try refine A1 ?_
 refine AX 0 rfl (Imp.pref_ref _) ?_
 refine A0 (AC rfl rfl rfl rfl rfl .nil) ?_
 try refine A1 ?_
 refine A0 (A8 rfl rfl rfl rfl rfl (A3 rfl rfl rfl (AA rfl (kn rfl)) (A3 rfl rfl rfl (A6 rfl (kn rfl) off_61_1) (A3 rfl rfl rfl (AG rfl (by kernel_rfl) (hE) ⟨B4 (kn rfl) (Imp.ref_pref _),trivial⟩) (AC rfl rfl rfl rfl rfl .nil))))) ?_
 try refine A1 ?_
 exact A7 rfl rfl (.tmp (kn rfl) (.nil)) (Imp.of_eq rfl) rfl
theorem O7(p:(Int×Int×Vl)×Ed)(hv:VSm 80 p.1.2.2)(hb:BU p.2<=100000)(hE:ESz p.2):EF Try.prog [] 68 [pP (esd p)] (.part (iP ((1+vsize p.1.2.2+BU p.2:Nat):Int))):=by
 have a1:=E1 hv
 refine AF 14 Try.func68 rfl rfl rfl fun w D=>?_
 try refine A1 ?_
 refine AX 0 rfl (Imp.pref_ref _) ?_
 refine A0 (AC rfl rfl rfl rfl rfl .nil) ?_
 try refine A1 ?_
 refine BZ C8 (by kernel_rfl) (A8 rfl rfl rfl rfl rfl (A3 rfl rfl rfl (AA rfl (kn rfl)) (A3 rfl rfl rfl (A6 rfl (kn rfl) off_76_2) (A3 rfl rfl rfl (AZ (vd p.1.2.2) 7 rfl (kn rfl) agg_27 sz_27 rfl rfl) (A3 rfl rfl rfl (AG rfl (by kernel_rfl) (IN p.1.2.2 (hv.short (by decide))) ⟨(kn rfl),trivial⟩) (A3 rfl rfl rfl (A9 rfl (kn rfl) (kn rfl) (AO (by first | omega | (dsimp only;omega)))) (A8 rfl rfl rfl rfl rfl (A3 rfl rfl rfl (AA rfl (kn rfl)) (A3 rfl rfl rfl (A6 rfl (kn rfl) off_76_3) (A3 rfl rfl rfl (AG rfl (by kernel_rfl) (hE) ⟨B4 (kn rfl) (Imp.ref_pref _),trivial⟩) (A3 rfl rfl rfl (A9 rfl (kn rfl) (kn rfl) (AO (by first | omega | (dsimp only;omega)))) (AC rfl rfl rfl rfl rfl .nil)))))))))))) ?_
 try refine A1 ?_
 exact A7 rfl rfl (.tmp (kn rfl) (.nil)) (Imp.of_eq (by congr 4)) rfl
theorem RD(p:Vl×Ed)(hv:VSm 20 p.1)(hb:BU p.2<=100000)(hE:ESz p.2):EF Try.prog [] 70 [pP (ekd p)] (.part (iP ((vsize p.1+BU p.2:Nat):Int))):=by
 have a1:=E1 hv
 refine AF 13 Try.func70 rfl rfl rfl fun w D=>?_
 try refine A1 ?_
 refine AX 0 rfl (Imp.pref_ref _) ?_
 refine A0 (AC rfl rfl rfl rfl rfl .nil) ?_
 try refine A1 ?_
 refine BZ C8 (by kernel_rfl) (A8 rfl rfl rfl rfl rfl (A3 rfl rfl rfl (AA rfl (kn rfl)) (A3 rfl rfl rfl (A6 rfl (kn rfl) off_65_0) (A3 rfl rfl rfl (AZ (vd p.1) 7 rfl (kn rfl) agg_27 sz_27 rfl rfl) (A3 rfl rfl rfl (AG rfl (by kernel_rfl) (IN p.1 (hv.short (by decide))) ⟨(kn rfl),trivial⟩) (A8 rfl rfl rfl rfl rfl (A3 rfl rfl rfl (AA rfl (kn rfl)) (A3 rfl rfl rfl (A6 rfl (kn rfl) off_65_1) (A3 rfl rfl rfl (AG rfl (by kernel_rfl) (hE) ⟨B4 (kn rfl) (Imp.ref_pref _),trivial⟩) (A3 rfl rfl rfl (A9 rfl (kn rfl) (kn rfl) (AO (by first | omega | (dsimp only;omega)))) (AC rfl rfl rfl rfl rfl .nil))))))))))) ?_
 try refine A1 ?_
 exact A7 rfl rfl (.tmp (kn rfl) (.nil)) (Imp.of_eq (by congr 4)) rfl
set_option maxHeartbeats 1000000 in
theorem TW(e:Ed)(hs:e.Sm)(ih:∀ x∈e.kids,ESz x):ESz e:=by
 unfold ESz
 have hl:=hs.lens
 have hb:=hs.bounds.1
 obtain⟨_,o1,o2,_,_,_,h3,h4⟩:=hs.ok.all
 have hk:∀ x∈e.kids,BU x<=100000:=fun x hx=>by have:=(hs.kid hx).bounds.1;omega
 have q:=I4 e
 refine AF 29 Try.func30 rfl rfl rfl fun w D=>?_
 try refine A1 ?_
 refine AX 0 rfl (Imp.pref_ref _) ?_
 refine A0 (AC rfl rfl rfl rfl rfl .nil) ?_
 try refine A1 ?_
 refine A0 (A8 rfl rfl rfl rfl rfl (A3 rfl rfl rfl (AA rfl (kn rfl)) (A3 rfl rfl rfl (A6 rfl (kn rfl) off_32_0) (A3 rfl rfl rfl (AD rfl (kn rfl) one_3) (A3 rfl rfl rfl (A9 rfl (kn rfl) (kn rfl) AL) .nil))))) ?_
 try refine A1 ?_
 refine AE rfl (fun c=>?_) (fun c=>?_)
 ·rw[if_pos (of_decide_eq_true c)]at q
  try refine A1 ?_
  refine A0 (AC rfl rfl rfl rfl rfl .nil) ?_
  try refine A1 ?_
  exact A7 rfl rfl (.tmp (kn rfl) (.nil)) (Imp.of_eq (by rw[q];rfl)) rfl
 rw[if_neg (of_decide_eq_false c)]at q
 try refine A1 ?_
 refine BZ C8 (by kernel_rfl) (A8 rfl rfl rfl rfl rfl (A3 rfl rfl rfl (AG rfl (by kernel_rfl) (T3 e hs) ⟨B4 (kn rfl) (Imp.ref_pref _),trivial⟩) (A3 rfl rfl rfl (A9 rfl (kn rfl) (kn rfl) (AO (by first | omega | (dsimp only;omega)))) (A8 rfl rfl rfl rfl rfl (A3 rfl rfl rfl (AA rfl (kn rfl)) (A3 rfl rfl rfl (A6 rfl (kn rfl) off_32_3) (A3 rfl rfl rfl (AD rfl (kn rfl) one_28) (A3 rfl rfl rfl (AG rfl (by kernel_rfl) (UX 66 (by kernel_rfl) e.fields (by omega) (fun p=>BU p.2) (by omega) (fun x hx=>N5 x (ih _ (Ed.kid_f hx)))) ⟨(kn rfl),⟨(kn rfl),trivial⟩⟩) (A3 rfl rfl rfl (A9 rfl (kn rfl) (kn rfl) (AO (by first | omega | (dsimp only;omega)))) (A8 rfl rfl rfl rfl rfl (A3 rfl rfl rfl (AA rfl (kn rfl)) (A3 rfl rfl rfl (A6 rfl (kn rfl) off_32_7) (A3 rfl rfl rfl (AD rfl (kn rfl) one_29) (A3 rfl rfl rfl (AG rfl (by kernel_rfl) (UQ 68 (by kernel_rfl) e.steps (by omega) (fun s=>1+vsize s.1.2.2+BU s.2) (by omega) (fun x hx=>O7 x (h3 x hx).2.2.2 (hk _ (Ed.kid_s hx)) (ih _ (Ed.kid_s hx)))) ⟨(kn rfl),⟨(kn rfl),trivial⟩⟩) (A3 rfl rfl rfl (A9 rfl (kn rfl) (kn rfl) (AO (by first | omega | (dsimp only;omega)))) (A8 rfl rfl rfl rfl rfl (A3 rfl rfl rfl (AA rfl (kn rfl)) (A3 rfl rfl rfl (A6 rfl (kn rfl) off_32_8) (A3 rfl rfl rfl (AD rfl (kn rfl) one_30) (A3 rfl rfl rfl (AG rfl (by kernel_rfl) (UF 70 (by kernel_rfl) e.keys (by omega) (fun s=>vsize s.1+BU s.2) (by omega) (fun x hx=>RD x (h4 x hx) (hk _ (Ed.kid_k hx)) (ih _ (Ed.kid_k hx)))) ⟨(kn rfl),⟨(kn rfl),trivial⟩⟩) (A3 rfl rfl rfl (A9 rfl (kn rfl) (kn rfl) (AO (by first | omega | (dsimp only;omega)))) (AC rfl rfl rfl rfl rfl .nil)))))))))))))))))))))) ?_
 try refine A1 ?_
 exact A7 rfl rfl (.tmp (kn rfl) (.nil)) (WA (by rw[q];push_cast;omega)) rfl
theorem WR(e:Ed):e.Sm->ESz e:=Ed.kids_ind (P:=fun e=>e.Sm->ESz e) (fun e ih h=>TW e h fun x hx=>ih x hx (h.kid hx)) e
theorem MP(e:Ed)(hs:e.Sm):EF Try.prog [] 15 [.many (ed e)] (.part (iP (BU e))):=by
 refine AF 4 Try.func15 rfl rfl rfl fun w D=>?_
 try refine A1 ?_
 refine AI ?_
 refine BS 1 rfl rfl rfl rfl (kn rfl) rfl rfl rfl rfl ?_
 refine C7 ?_
 refine AH ?_
 try refine A1 ?_
 refine JA 1 1 rfl rfl rfl ?_
 refine AX 1 rfl ((Imp.ptr_ref _ _).trans (Imp.ref_pref _)) ?_
 refine A0 (A3 rfl rfl rfl (AG rfl (by kernel_rfl) (WR e hs) ⟨(kn rfl),trivial⟩) (AC rfl rfl rfl rfl rfl .nil)) ?_
 try refine A1 ?_
 exact A7 rfl rfl (.tmp (kn rfl) (.nil)) (Imp.of_eq rfl) rfl
def EDp(e:Ed):Prop:=EF Try.prog [] 31 [pP (ed e)] (.part (iP (BN e)))
theorem LZ(p:Int×Ed)(hE:EDp p.2):EF Try.prog [] 72 [pP (efd p)] (.part (iP (BN p.2))):=by
 refine AF 7 Try.func72 rfl rfl rfl fun w D=>?_
 try refine A1 ?_
 refine AX 0 rfl (Imp.pref_ref _) ?_
 refine A0 (AC rfl rfl rfl rfl rfl .nil) ?_
 try refine A1 ?_
 refine A0 (A8 rfl rfl rfl rfl rfl (A3 rfl rfl rfl (AA rfl (kn rfl)) (A3 rfl rfl rfl (A6 rfl (kn rfl) off_61_1) (A3 rfl rfl rfl (AG rfl (by kernel_rfl) (hE) ⟨B4 (kn rfl) (Imp.ref_pref _),trivial⟩) (AC rfl rfl rfl rfl rfl .nil))))) ?_
 try refine A1 ?_
 exact A7 rfl rfl (.tmp (kn rfl) (.nil)) (Imp.of_eq rfl) rfl
theorem NP(p:(Int×Int×Vl)×Ed)(hE:EDp p.2):EF Try.prog [] 74 [pP (esd p)] (.part (iP (BN p.2))):=by
 refine AF 7 Try.func74 rfl rfl rfl fun w D=>?_
 try refine A1 ?_
 refine AX 0 rfl (Imp.pref_ref _) ?_
 refine A0 (AC rfl rfl rfl rfl rfl .nil) ?_
 try refine A1 ?_
 refine A0 (A8 rfl rfl rfl rfl rfl (A3 rfl rfl rfl (AA rfl (kn rfl)) (A3 rfl rfl rfl (A6 rfl (kn rfl) off_76_3) (A3 rfl rfl rfl (AG rfl (by kernel_rfl) (hE) ⟨B4 (kn rfl) (Imp.ref_pref _),trivial⟩) (AC rfl rfl rfl rfl rfl .nil))))) ?_
 try refine A1 ?_
 exact A7 rfl rfl (.tmp (kn rfl) (.nil)) (Imp.of_eq rfl) rfl
theorem O5(p:Vl×Ed)(hE:EDp p.2):EF Try.prog [] 76 [pP (ekd p)] (.part (iP (BN p.2))):=by
 refine AF 7 Try.func76 rfl rfl rfl fun w D=>?_
 try refine A1 ?_
 refine AX 0 rfl (Imp.pref_ref _) ?_
 refine A0 (AC rfl rfl rfl rfl rfl .nil) ?_
 try refine A1 ?_
 refine A0 (A8 rfl rfl rfl rfl rfl (A3 rfl rfl rfl (AA rfl (kn rfl)) (A3 rfl rfl rfl (A6 rfl (kn rfl) off_65_1) (A3 rfl rfl rfl (AG rfl (by kernel_rfl) (hE) ⟨B4 (kn rfl) (Imp.ref_pref _),trivial⟩) (AC rfl rfl rfl rfl rfl .nil))))) ?_
 try refine A1 ?_
 exact A7 rfl rfl (.tmp (kn rfl) (.nil)) (Imp.of_eq rfl) rfl
theorem HJ(e:Ed):BN e=if e.kind=0 then 0 else 1+max (max (DI (e.fields.map fun p=>BN p.2)) (DI (e.steps.map fun p=>BN p.2))) (DI (e.keys.map fun p=>BN p.2)):=by
 rw[MV,Ed.kids,List.map_append,List.map_append,GN,GN,List.map_map,List.map_map,List.map_map,Nat.max_assoc]
 rfl
set_option maxHeartbeats 1000000 in
theorem UG(e:Ed)(hs:e.Sm)(ih:∀ x∈e.kids,EDp x):EDp e:=by
 unfold EDp
 have hl:=hs.lens
 have hb:=hs.bounds.2
 have q:=HJ e
 refine AF 25 Try.func31 rfl rfl rfl fun w D=>?_
 try refine A1 ?_
 refine AX 0 rfl (Imp.pref_ref _) ?_
 refine A0 (AC rfl rfl rfl rfl rfl .nil) ?_
 try refine A1 ?_
 refine A0 (A8 rfl rfl rfl rfl rfl (A3 rfl rfl rfl (AA rfl (kn rfl)) (A3 rfl rfl rfl (A6 rfl (kn rfl) off_32_0) (A3 rfl rfl rfl (AD rfl (kn rfl) one_3) (A3 rfl rfl rfl (A9 rfl (kn rfl) (kn rfl) AL) .nil))))) ?_
 try refine A1 ?_
 refine AE rfl (fun c=>?_) (fun c=>?_)
 ·rw[if_pos (of_decide_eq_true c)]at q
  try refine A1 ?_
  refine A0 (AC rfl rfl rfl rfl rfl .nil) ?_
  try refine A1 ?_
  exact A7 rfl rfl (.tmp (kn rfl) (.nil)) (Imp.of_eq (by rw[q];rfl)) rfl
 rw[if_neg (of_decide_eq_false c)]at q
 try refine A1 ?_
 refine BZ C8 (by kernel_rfl) (A8 rfl rfl rfl rfl rfl (A3 rfl rfl rfl (AA rfl (kn rfl)) (A3 rfl rfl rfl (A6 rfl (kn rfl) off_32_3) (A3 rfl rfl rfl (AD rfl (kn rfl) one_28) (A3 rfl rfl rfl (AG rfl (by kernel_rfl) (SK 72 (by kernel_rfl) e.fields (by omega) (fun p=>BN p.2) (fun x hx=>LZ x (ih _ (Ed.kid_f hx)))) ⟨(kn rfl),⟨(kn rfl),trivial⟩⟩) (A8 rfl rfl rfl rfl rfl (A3 rfl rfl rfl (AA rfl (kn rfl)) (A3 rfl rfl rfl (A6 rfl (kn rfl) off_32_7) (A3 rfl rfl rfl (AD rfl (kn rfl) one_29) (A3 rfl rfl rfl (AG rfl (by kernel_rfl) (T6 74 (by kernel_rfl) e.steps (by omega) (fun p=>BN p.2) (fun x hx=>NP x (ih _ (Ed.kid_s hx)))) ⟨(kn rfl),⟨(kn rfl),trivial⟩⟩) (A8 rfl rfl rfl rfl rfl (A3 rfl rfl rfl (AA rfl (kn rfl)) (A3 rfl rfl rfl (A6 rfl (kn rfl) off_32_8) (A3 rfl rfl rfl (AD rfl (kn rfl) one_30) (A3 rfl rfl rfl (AG rfl (by kernel_rfl) (SR 76 (by kernel_rfl) e.keys (by omega) (fun p=>BN p.2) (fun x hx=>O5 x (ih _ (Ed.kid_k hx)))) ⟨(kn rfl),⟨(kn rfl),trivial⟩⟩) (A3 rfl rfl rfl (WE rfl (kn rfl) (kn rfl) (kn rfl)) (A3 rfl rfl rfl (A9 rfl (kn rfl) (kn rfl) (AO (by first | omega | (dsimp only;omega)))) (AC rfl rfl rfl rfl rfl .nil)))))))))))))))))) ?_
 try refine A1 ?_
 exact A7 rfl rfl (.tmp (kn rfl) (.nil)) (WA (by rw[q];push_cast;omega)) rfl
theorem WK(e:Ed):e.Sm->EDp e:=Ed.kids_ind (P:=fun e=>e.Sm->EDp e) (fun e ih h=>UG e h fun x hx=>ih x hx (h.kid hx)) e
theorem KD(e:Ed)(hs:e.Sm):EF Try.prog [] 16 [.many (ed e)] (.part (iP (BN e))):=by
 refine AF 4 Try.func16 rfl rfl rfl fun w D=>?_
 try refine A1 ?_
 refine AI ?_
 refine BS 1 rfl rfl rfl rfl (kn rfl) rfl rfl rfl rfl ?_
 refine C7 ?_
 refine AH ?_
 try refine A1 ?_
 refine JA 1 1 rfl rfl rfl ?_
 refine AX 1 rfl ((Imp.ptr_ref _ _).trans (Imp.ref_pref _)) ?_
 refine A0 (A3 rfl rfl rfl (AG rfl (by kernel_rfl) (WK e hs) ⟨(kn rfl),trivial⟩) (AC rfl rfl rfl rfl rfl .nil)) ?_
 try refine A1 ?_
 exact A7 rfl rfl (.tmp (kn rfl) (.nil)) (Imp.of_eq rfl) rfl
def EEq(a:Ed):Prop:=∀ b:Ed,b.Sm->EF Try.prog [] 29 [pP (ed a),pP (ed b)] (.part (tP (eeq a b)))
set_option maxHeartbeats 1000000 in
theorem SS(a b:Ed)(ha:a.Sm)(hb:b.Sm):EF Try.prog [] 57 [pP (ed a),pP (ed b)] (.part (tP (L5 a b))):=by
 refine AF 69 Try.func57 rfl rfl rfl fun w D=>?_
 try refine A1 ?_
 refine AX 0 rfl (Imp.pref_ref _) ?_
 refine AX 1 rfl (Imp.pref_ref _) ?_
 refine A0 (AC rfl rfl rfl rfl rfl .nil) ?_
 try refine A1 ?_
 refine BZ C8 (by kernel_rfl) (A8 rfl rfl rfl rfl rfl (A3 rfl rfl rfl (AA rfl (kn rfl)) (A3 rfl rfl rfl (A6 rfl (kn rfl) off_32_0) (A3 rfl rfl rfl (AD rfl (kn rfl) one_3) (A8 rfl rfl rfl rfl rfl (A3 rfl rfl rfl (AA rfl (kn rfl)) (A3 rfl rfl rfl (A6 rfl (kn rfl) off_32_0) (A3 rfl rfl rfl (AD rfl (kn rfl) one_3) (A3 rfl rfl rfl (A9 rfl (kn rfl) (kn rfl) AL) (A8 rfl rfl rfl rfl rfl (Walk.gd _ rfl rfl rfl (fun h=>AM rfl (kn rfl)) (Walk.gd _ rfl rfl rfl (fun h=>AA rfl (A2 rfl h)) (Walk.gd _ rfl rfl rfl (fun h=>A6 rfl (A2 rfl h) off_32_1) (Walk.gd _ rfl rfl rfl (fun h=>AZ (vd a.old) 7 rfl (A2 rfl h) agg_27 sz_27 rfl rfl) (Walk.gd _ rfl rfl rfl (fun h=>AM rfl (kn rfl)) (Walk.gd _ rfl rfl rfl (fun h=>AA rfl (A2 rfl h)) (Walk.gd _ rfl rfl rfl (fun h=>A6 rfl (A2 rfl h) off_32_1) (Walk.gd _ rfl rfl rfl (fun h=>AZ (vd b.old) 7 rfl (A2 rfl h) agg_27 sz_27 rfl rfl) (Walk.gd _ rfl rfl rfl (fun h=>AG rfl (by kernel_rfl) (ET a.old b.old ha.short.1 hb.short.1) ⟨(A2 rfl h),⟨(A2 rfl h),trivial⟩⟩) (A3 rfl rfl rfl (AP rfl (kn rfl) (fun hb=>A2 rfl hb)) (A8 rfl rfl rfl rfl rfl (Walk.gd _ rfl rfl rfl (fun h=>AM rfl (kn rfl)) (Walk.gd _ rfl rfl rfl (fun h=>AA rfl (A2 rfl h)) (Walk.gd _ rfl rfl rfl (fun h=>A6 rfl (A2 rfl h) off_32_2) (Walk.gd _ rfl rfl rfl (fun h=>AZ (vd a.new) 7 rfl (A2 rfl h) agg_27 sz_27 rfl rfl) (Walk.gd _ rfl rfl rfl (fun h=>AM rfl (kn rfl)) (Walk.gd _ rfl rfl rfl (fun h=>AA rfl (A2 rfl h)) (Walk.gd _ rfl rfl rfl (fun h=>A6 rfl (A2 rfl h) off_32_2) (Walk.gd _ rfl rfl rfl (fun h=>AZ (vd b.new) 7 rfl (A2 rfl h) agg_27 sz_27 rfl rfl) (Walk.gd _ rfl rfl rfl (fun h=>AG rfl (by kernel_rfl) (ET a.new b.new ha.short.2 hb.short.2) ⟨(A2 rfl h),⟨(A2 rfl h),trivial⟩⟩) (A3 rfl rfl rfl (AP rfl (kn rfl) (fun hb=>A2 rfl hb)) (A8 rfl rfl rfl rfl rfl (Walk.gd _ rfl rfl rfl (fun h=>AM rfl (kn rfl)) (Walk.gd _ rfl rfl rfl (fun h=>AA rfl (A2 rfl h)) (Walk.gd _ rfl rfl rfl (fun h=>A6 rfl (A2 rfl h) off_32_4) (Walk.gd _ rfl rfl rfl (fun h=>AD rfl (A2 rfl h) one_4) (Walk.gd _ rfl rfl rfl (fun h=>AM rfl (kn rfl)) (Walk.gd _ rfl rfl rfl (fun h=>AA rfl (A2 rfl h)) (Walk.gd _ rfl rfl rfl (fun h=>A6 rfl (A2 rfl h) off_32_4) (Walk.gd _ rfl rfl rfl (fun h=>AD rfl (A2 rfl h) one_4) (Walk.gd _ rfl rfl rfl (fun h=>A9 rfl (A2 rfl h) (A2 rfl h) (X4 bool_4)) (A3 rfl rfl rfl (AP rfl (kn rfl) (fun hb=>A2 rfl hb)) (A8 rfl rfl rfl rfl rfl (Walk.gd _ rfl rfl rfl (fun h=>AM rfl (kn rfl)) (Walk.gd _ rfl rfl rfl (fun h=>AA rfl (A2 rfl h)) (Walk.gd _ rfl rfl rfl (fun h=>A6 rfl (A2 rfl h) off_32_5) (Walk.gd _ rfl rfl rfl (fun h=>AD rfl (A2 rfl h) one_9) (Walk.gd _ rfl rfl rfl (fun h=>AM rfl (kn rfl)) (Walk.gd _ rfl rfl rfl (fun h=>AA rfl (A2 rfl h)) (Walk.gd _ rfl rfl rfl (fun h=>A6 rfl (A2 rfl h) off_32_5) (Walk.gd _ rfl rfl rfl (fun h=>AD rfl (A2 rfl h) one_9) (Walk.gd _ rfl rfl rfl (fun h=>A9 rfl (A2 rfl h) (A2 rfl h) (CU)) (A3 rfl rfl rfl (AP rfl (kn rfl) (fun hb=>A2 rfl hb)) (A8 rfl rfl rfl rfl rfl (Walk.gd _ rfl rfl rfl (fun h=>AM rfl (kn rfl)) (Walk.gd _ rfl rfl rfl (fun h=>AA rfl (A2 rfl h)) (Walk.gd _ rfl rfl rfl (fun h=>A6 rfl (A2 rfl h) off_32_6) (Walk.gd _ rfl rfl rfl (fun h=>AD rfl (A2 rfl h) one_9) (Walk.gd _ rfl rfl rfl (fun h=>AM rfl (kn rfl)) (Walk.gd _ rfl rfl rfl (fun h=>AA rfl (A2 rfl h)) (Walk.gd _ rfl rfl rfl (fun h=>A6 rfl (A2 rfl h) off_32_6) (Walk.gd _ rfl rfl rfl (fun h=>AD rfl (A2 rfl h) one_9) (Walk.gd _ rfl rfl rfl (fun h=>A9 rfl (A2 rfl h) (A2 rfl h) (CU)) (A3 rfl rfl rfl (AP rfl (kn rfl) (fun hb=>A2 rfl hb)) (AC rfl rfl rfl rfl rfl .nil))))))))))))))))))))))))))))))))))))))))))))))))))))))))))))))))) ?_
 try refine A1 ?_
 exact A7 rfl rfl (.tmp (kn rfl) (.nil)) (AR rfl) rfl
theorem R9(p q:Int×Ed)(hq:q.2.Sm)(hE:EEq p.2):EF Try.prog [] 59 [pP (efd p),pP (efd q)] (.part (tP (N8 p q))):=by
 refine AF 23 Try.func59 rfl rfl rfl fun w D=>?_
 try refine A1 ?_
 refine AX 0 rfl (Imp.pref_ref _) ?_
 refine AX 1 rfl (Imp.pref_ref _) ?_
 refine A0 (AC rfl rfl rfl rfl rfl .nil) ?_
 try refine A1 ?_
 refine BZ C8 (by kernel_rfl) (A8 rfl rfl rfl rfl rfl (A3 rfl rfl rfl (AA rfl (kn rfl)) (A3 rfl rfl rfl (A6 rfl (kn rfl) off_61_0) (A3 rfl rfl rfl (AD rfl (kn rfl) one_3) (A8 rfl rfl rfl rfl rfl (A3 rfl rfl rfl (AA rfl (kn rfl)) (A3 rfl rfl rfl (A6 rfl (kn rfl) off_61_0) (A3 rfl rfl rfl (AD rfl (kn rfl) one_3) (A3 rfl rfl rfl (A9 rfl (kn rfl) (kn rfl) AL) (A8 rfl rfl rfl rfl rfl (Walk.gd _ rfl rfl rfl (fun h=>AM rfl (kn rfl)) (Walk.gd _ rfl rfl rfl (fun h=>AA rfl (A2 rfl h)) (Walk.gd _ rfl rfl rfl (fun h=>A6 rfl (A2 rfl h) off_61_1) (Walk.gd _ rfl rfl rfl (fun h=>AM rfl (kn rfl)) (Walk.gd _ rfl rfl rfl (fun h=>AA rfl (A2 rfl h)) (Walk.gd _ rfl rfl rfl (fun h=>A6 rfl (A2 rfl h) off_61_1) (Walk.gd _ rfl rfl rfl (fun h=>AG rfl (by kernel_rfl) (hE q.2 hq) ⟨B4 (A2 rfl h) (Imp.ref_pref _),⟨B4 (A2 rfl h) (Imp.ref_pref _),trivial⟩⟩) (A3 rfl rfl rfl (AP rfl (kn rfl) (fun hb=>A2 rfl hb)) (AC rfl rfl rfl rfl rfl .nil))))))))))))))))))) ?_
 try refine A1 ?_
 exact A7 rfl rfl (.tmp (kn rfl) (.nil)) (AR rfl) rfl
theorem SG(p q:(Int×Int×Vl)×Ed)(h1:VSm 80 p.1.2.2)(h2:VSm 80 q.1.2.2)(hq:q.2.Sm)(hE:EEq p.2):EF Try.prog [] 61 [pP (esd p),pP (esd q)] (.part (tP (RP p q))):=by
 refine AF 45 Try.func61 rfl rfl rfl fun w D=>?_
 try refine A1 ?_
 refine AX 0 rfl (Imp.pref_ref _) ?_
 refine AX 1 rfl (Imp.pref_ref _) ?_
 refine A0 (AC rfl rfl rfl rfl rfl .nil) ?_
 try refine A1 ?_
 refine BZ C8 (by kernel_rfl) (A8 rfl rfl rfl rfl rfl (A3 rfl rfl rfl (AA rfl (kn rfl)) (A3 rfl rfl rfl (A6 rfl (kn rfl) off_76_0) (A3 rfl rfl rfl (AD rfl (kn rfl) one_3) (A8 rfl rfl rfl rfl rfl (A3 rfl rfl rfl (AA rfl (kn rfl)) (A3 rfl rfl rfl (A6 rfl (kn rfl) off_76_0) (A3 rfl rfl rfl (AD rfl (kn rfl) one_3) (A3 rfl rfl rfl (A9 rfl (kn rfl) (kn rfl) AL) (A8 rfl rfl rfl rfl rfl (Walk.gd _ rfl rfl rfl (fun h=>AM rfl (kn rfl)) (Walk.gd _ rfl rfl rfl (fun h=>AA rfl (A2 rfl h)) (Walk.gd _ rfl rfl rfl (fun h=>A6 rfl (A2 rfl h) off_76_1) (Walk.gd _ rfl rfl rfl (fun h=>AD rfl (A2 rfl h) one_3) (Walk.gd _ rfl rfl rfl (fun h=>AM rfl (kn rfl)) (Walk.gd _ rfl rfl rfl (fun h=>AA rfl (A2 rfl h)) (Walk.gd _ rfl rfl rfl (fun h=>A6 rfl (A2 rfl h) off_76_1) (Walk.gd _ rfl rfl rfl (fun h=>AD rfl (A2 rfl h) one_3) (Walk.gd _ rfl rfl rfl (fun h=>A9 rfl (A2 rfl h) (A2 rfl h) AL) (A3 rfl rfl rfl (AP rfl (kn rfl) (fun hb=>A2 rfl hb)) (A8 rfl rfl rfl rfl rfl (Walk.gd _ rfl rfl rfl (fun h=>AM rfl (kn rfl)) (Walk.gd _ rfl rfl rfl (fun h=>AA rfl (A2 rfl h)) (Walk.gd _ rfl rfl rfl (fun h=>A6 rfl (A2 rfl h) off_76_2) (Walk.gd _ rfl rfl rfl (fun h=>AZ (vd p.1.2.2) 7 rfl (A2 rfl h) agg_27 sz_27 rfl rfl) (Walk.gd _ rfl rfl rfl (fun h=>AM rfl (kn rfl)) (Walk.gd _ rfl rfl rfl (fun h=>AA rfl (A2 rfl h)) (Walk.gd _ rfl rfl rfl (fun h=>A6 rfl (A2 rfl h) off_76_2) (Walk.gd _ rfl rfl rfl (fun h=>AZ (vd q.1.2.2) 7 rfl (A2 rfl h) agg_27 sz_27 rfl rfl) (Walk.gd _ rfl rfl rfl (fun h=>AG rfl (by kernel_rfl) (ET p.1.2.2 q.1.2.2 (h1.short (by decide)) (h2.short (by decide))) ⟨(A2 rfl h),⟨(A2 rfl h),trivial⟩⟩) (A3 rfl rfl rfl (AP rfl (kn rfl) (fun hb=>A2 rfl hb)) (A8 rfl rfl rfl rfl rfl (Walk.gd _ rfl rfl rfl (fun h=>AM rfl (kn rfl)) (Walk.gd _ rfl rfl rfl (fun h=>AA rfl (A2 rfl h)) (Walk.gd _ rfl rfl rfl (fun h=>A6 rfl (A2 rfl h) off_76_3) (Walk.gd _ rfl rfl rfl (fun h=>AM rfl (kn rfl)) (Walk.gd _ rfl rfl rfl (fun h=>AA rfl (A2 rfl h)) (Walk.gd _ rfl rfl rfl (fun h=>A6 rfl (A2 rfl h) off_76_3) (Walk.gd _ rfl rfl rfl (fun h=>AG rfl (by kernel_rfl) (hE q.2 hq) ⟨B4 (A2 rfl h) (Imp.ref_pref _),⟨B4 (A2 rfl h) (Imp.ref_pref _),trivial⟩⟩) (A3 rfl rfl rfl (AP rfl (kn rfl) (fun hb=>A2 rfl hb)) (AC rfl rfl rfl rfl rfl .nil))))))))))))))))))))))))))))))))))))))))) ?_
 try refine A1 ?_
 exact A7 rfl rfl (.tmp (kn rfl) (.nil)) (AR rfl) rfl
theorem UM(p q:Vl×Ed)(h1:VSm 20 p.1)(h2:VSm 20 q.1)(hq:q.2.Sm)(hE:EEq p.2):EF Try.prog [] 63 [pP (ekd p),pP (ekd q)] (.part (tP (VB p q))):=by
 refine AF 23 Try.func63 rfl rfl rfl fun w D=>?_
 try refine A1 ?_
 refine AX 0 rfl (Imp.pref_ref _) ?_
 refine AX 1 rfl (Imp.pref_ref _) ?_
 refine A0 (AC rfl rfl rfl rfl rfl .nil) ?_
 try refine A1 ?_
 refine BZ C8 (by kernel_rfl) (A8 rfl rfl rfl rfl rfl (A3 rfl rfl rfl (AA rfl (kn rfl)) (A3 rfl rfl rfl (A6 rfl (kn rfl) off_65_0) (A3 rfl rfl rfl (AZ (vd p.1) 7 rfl (kn rfl) agg_27 sz_27 rfl rfl) (A8 rfl rfl rfl rfl rfl (A3 rfl rfl rfl (AA rfl (kn rfl)) (A3 rfl rfl rfl (A6 rfl (kn rfl) off_65_0) (A3 rfl rfl rfl (AZ (vd q.1) 7 rfl (kn rfl) agg_27 sz_27 rfl rfl) (A3 rfl rfl rfl (AG rfl (by kernel_rfl) (ET p.1 q.1 (h1.short (by decide)) (h2.short (by decide))) ⟨(kn rfl),⟨(kn rfl),trivial⟩⟩) (A8 rfl rfl rfl rfl rfl (Walk.gd _ rfl rfl rfl (fun h=>AM rfl (kn rfl)) (Walk.gd _ rfl rfl rfl (fun h=>AA rfl (A2 rfl h)) (Walk.gd _ rfl rfl rfl (fun h=>A6 rfl (A2 rfl h) off_65_1) (Walk.gd _ rfl rfl rfl (fun h=>AM rfl (kn rfl)) (Walk.gd _ rfl rfl rfl (fun h=>AA rfl (A2 rfl h)) (Walk.gd _ rfl rfl rfl (fun h=>A6 rfl (A2 rfl h) off_65_1) (Walk.gd _ rfl rfl rfl (fun h=>AG rfl (by kernel_rfl) (hE q.2 hq) ⟨B4 (A2 rfl h) (Imp.ref_pref _),⟨B4 (A2 rfl h) (Imp.ref_pref _),trivial⟩⟩) (A3 rfl rfl rfl (AP rfl (kn rfl) (fun hb=>A2 rfl hb)) (AC rfl rfl rfl rfl rfl .nil))))))))))))))))))) ?_
 try refine A1 ?_
 exact A7 rfl rfl (.tmp (kn rfl) (.nil)) (AR rfl) rfl
set_option maxHeartbeats 1000000 in
theorem UA(a:Ed)(ha:a.Sm)(ih:∀ x∈a.kids,EEq x):EEq a:=by
 intro b hb
 have la:=ha.lens
 have lb:=hb.lens
 obtain⟨_,_,_,_,_,_,a3,a4⟩:=ha.ok.all
 obtain⟨_,_,_,_,_,_,b3,b4⟩:=hb.ok.all
 have q:=TV a b
 refine AF 41 Try.func29 rfl rfl rfl fun w D=>?_
 try refine A1 ?_
 refine AX 0 rfl (Imp.pref_ref _) ?_
 refine AX 1 rfl (Imp.pref_ref _) ?_
 refine A0 (AC rfl rfl rfl rfl rfl .nil) ?_
 try refine A1 ?_
 refine BZ C8 (by kernel_rfl) (A8 rfl rfl rfl rfl rfl (A8 rfl rfl rfl rfl rfl (A3 rfl rfl rfl (AG rfl (by kernel_rfl) (SS a b ha hb) ⟨B4 (kn rfl) (Imp.ref_pref _),⟨B4 (kn rfl) (Imp.ref_pref _),trivial⟩⟩) (A8 rfl rfl rfl rfl rfl (Walk.gd _ rfl rfl rfl (fun h=>AM rfl (kn rfl)) (Walk.gd _ rfl rfl rfl (fun h=>AA rfl (A2 rfl h)) (Walk.gd _ rfl rfl rfl (fun h=>A6 rfl (A2 rfl h) off_32_3) (Walk.gd _ rfl rfl rfl (fun h=>AD rfl (A2 rfl h) one_28) (Walk.gd _ rfl rfl rfl (fun h=>AM rfl (kn rfl)) (Walk.gd _ rfl rfl rfl (fun h=>AA rfl (A2 rfl h)) (Walk.gd _ rfl rfl rfl (fun h=>A6 rfl (A2 rfl h) off_32_3) (Walk.gd _ rfl rfl rfl (fun h=>AD rfl (A2 rfl h) one_28) (Walk.gd _ rfl rfl rfl (fun h=>AG rfl (by kernel_rfl) (QZ 59 (by kernel_rfl) a.fields b.fields (by omega) (by omega) N8 (fun x hx y hy=>R9 x y (hb.kid (Ed.kid_f hy)) (ih _ (Ed.kid_f hx)))) ⟨(A2 rfl h),⟨(A2 rfl h),⟨(kn rfl),trivial⟩⟩⟩) (A3 rfl rfl rfl (AP rfl (kn rfl) (fun hb=>A2 rfl hb)) (A8 rfl rfl rfl rfl rfl (Walk.gd _ rfl rfl rfl (fun h=>AM rfl (kn rfl)) (Walk.gd _ rfl rfl rfl (fun h=>AA rfl (A2 rfl h)) (Walk.gd _ rfl rfl rfl (fun h=>A6 rfl (A2 rfl h) off_32_7) (Walk.gd _ rfl rfl rfl (fun h=>AD rfl (A2 rfl h) one_29) (Walk.gd _ rfl rfl rfl (fun h=>AM rfl (kn rfl)) (Walk.gd _ rfl rfl rfl (fun h=>AA rfl (A2 rfl h)) (Walk.gd _ rfl rfl rfl (fun h=>A6 rfl (A2 rfl h) off_32_7) (Walk.gd _ rfl rfl rfl (fun h=>AD rfl (A2 rfl h) one_29) (Walk.gd _ rfl rfl rfl (fun h=>AG rfl (by kernel_rfl) (RC 61 (by kernel_rfl) a.steps b.steps (by omega) (by omega) RP (fun x hx y hy=>SG x y (a3 x hx).2.2.2 (b3 y hy).2.2.2 (hb.kid (Ed.kid_s hy)) (ih _ (Ed.kid_s hx)))) ⟨(A2 rfl h),⟨(A2 rfl h),⟨(kn rfl),trivial⟩⟩⟩) (A3 rfl rfl rfl (AP rfl (kn rfl) (fun hb=>A2 rfl hb)) (A8 rfl rfl rfl rfl rfl (Walk.gd _ rfl rfl rfl (fun h=>AM rfl (kn rfl)) (Walk.gd _ rfl rfl rfl (fun h=>AA rfl (A2 rfl h)) (Walk.gd _ rfl rfl rfl (fun h=>A6 rfl (A2 rfl h) off_32_8) (Walk.gd _ rfl rfl rfl (fun h=>AD rfl (A2 rfl h) one_30) (Walk.gd _ rfl rfl rfl (fun h=>AM rfl (kn rfl)) (Walk.gd _ rfl rfl rfl (fun h=>AA rfl (A2 rfl h)) (Walk.gd _ rfl rfl rfl (fun h=>A6 rfl (A2 rfl h) off_32_8) (Walk.gd _ rfl rfl rfl (fun h=>AD rfl (A2 rfl h) one_30) (Walk.gd _ rfl rfl rfl (fun h=>AG rfl (by kernel_rfl) (QT 63 (by kernel_rfl) a.keys b.keys (by omega) (by omega) VB (fun x hx y hy=>UM x y (a4 x hx) (b4 y hy) (hb.kid (Ed.kid_k hy)) (ih _ (Ed.kid_k hx)))) ⟨(A2 rfl h),⟨(A2 rfl h),⟨(kn rfl),trivial⟩⟩⟩) (A3 rfl rfl rfl (AP rfl (kn rfl) (fun hb=>A2 rfl hb)) (AC rfl rfl rfl rfl rfl .nil))))))))))))))))))))))))))))))))))))) ?_
 try refine A1 ?_
 exact A7 rfl rfl (.tmp (kn rfl) (.nil)) (AR q.symm) rfl
theorem VW(a:Ed):a.Sm->EEq a:=Ed.kids_ind (P:=fun a=>a.Sm->EEq a) (fun a ih h=>UA a h fun x hx=>ih x hx (h.kid hx)) a
theorem S8(a b:Ed)(ha:a.Sm)(hb:b.Sm):EF Try.prog [] 14 [.many (ed a),.many (ed b)] (.part (tP (eeq a b))):=by
 refine AF 6 Try.func14 rfl rfl rfl fun w D=>?_
 try refine A1 ?_
 refine AI ?_
 refine BS 2 rfl rfl rfl rfl (kn rfl) rfl rfl rfl rfl ?_
 refine BS 3 rfl rfl rfl rfl (kn rfl) rfl rfl rfl rfl ?_
 refine C7 ?_
 refine AH ?_
 try refine A1 ?_
 refine JA 2 2 rfl rfl rfl ?_
 refine JA 3 3 rfl rfl rfl ?_
 refine AX 2 rfl ((Imp.ptr_ref _ _).trans (Imp.ref_pref _)) ?_
 refine AX 3 rfl ((Imp.ptr_ref _ _).trans (Imp.ref_pref _)) ?_
 refine A0 (A3 rfl rfl rfl (AG rfl (by kernel_rfl) (VW a ha b hb) ⟨(kn rfl),⟨(kn rfl),trivial⟩⟩) (AC rfl rfl rfl rfl rfl .nil)) ?_
 try refine A1 ?_
 exact A7 rfl rfl (.tmp (kn rfl) (.nil)) (Imp.of_eq rfl) rfl
theorem TQ{P:Program}{f:FuncId}{ps:List Part}{v:Value}{w:World}{vs:List Value}(h:EF P [] f ps (.is v))(hp:PsFit w (Old w) ps vs):Calls P f vs.toArray w fun e w'=>e=.returned v/\Below w.heap.size w w':=
 (h w (Old w) vs (fun g hg=>hg) (fun _ _ h=>by cases h) hp).mono fun e w' ⟨u,y,h1,h2,h3,h4⟩=>by
  subst h2
  refine⟨?_,h3⟩
  rw[h1,VR.is_eq (h4 (fun _=>0) (fun _=>undef))]
theorem TN(k:Int)(n:Nat)(h1 : -9223372036854775808<=k)(h2:k<9223372036854775808)(h3:n<18446744073709551616):VSm 80 (.mk k n [] [] [] [] []):=
 ⟨(MM k n h1 h2 h3).fine,(MM k n h1 h2 h3).tx,by rw[CE];simp[Vl.list,Vl.fields,Vl.pairs,lnodes,fnodes,pnodes]⟩
theorem OP(k:Int)(o n:Vl)(hk:I64 k)(ho:VSm 80 o)(hn:VSm 80 n):(Ed.mk k o n [] false [] [] [] []).Sm:=
 ⟨.mk _ hk ho hn (Nat.zero_le _) (Nat.zero_le _) (fun _ h=>by cases h) (fun _ h=>by cases h) (fun _ h=>by cases h) (fun _ h=>by cases h),by rw[DB];simp[Ed.fields,Ed.steps,Ed.keys]⟩
theorem P9(a b:Vl):B5 (.mk 1 a b [] false [] [] [] [])=(vright a&&vright b && !DN a b):=by
 rw[DF]
 simp[E3,Ed.kind,Ed.old,Ed.new,Ed.fields,Ed.rests,Ed.ro,Ed.rn,Ed.steps,Ed.keys]
theorem Q9(n:Nat):vright (WL n)=true:=by simp[WL,vright,fright,lright,pright,vplain,Vl.kind,Vl.num,Vl.text,Vl.fields,Vl.rest,Vl.list,Vl.pairs]
end Go.Proofs.Ytecfdcdkkgmkpaa
