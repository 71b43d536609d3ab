/- Part 19. Conditions: as each theorem says. -/
import Derived.Test.YtecfdcdkkgmkpaaIO18
import Derived.Test.YtecfdcdkkgmkpaaProg
set_option maxRecDepth 100000
namespace Go.Proofs.Ytecfdcdkkgmkpaa
open Go.RowKit
theorem B4{a b:Bool}(h:a=b):Imp (MN [.one (.cell (.bool a))]) (.part (tP b)):=Imp.of_eq (by rw[h];rfl)
theorem LB(n:Int):EF Try.prog [] 111 [iP n] (.part (tP (TH n))):=by
 refine AH 9 Try.func111 rfl rfl rfl fun w D=>?_
 try refine A2 ?_
 refine A1 (AC rfl rfl rfl rfl rfl .nil) ?_
 try refine A2 ?_
 refine A1 (A9 rfl rfl rfl rfl rfl (A4 rfl rfl rfl (A6 rfl (kn rfl) (kn rfl) DM) (A9 rfl rfl rfl rfl rfl (Walk.gd _ rfl rfl rfl (fun h=>AW rfl (kn rfl)) (Walk.gd _ rfl rfl rfl (fun h=>A6 rfl (A3 rfl h) (kn rfl) PR) (A4 rfl rfl rfl (AQ rfl (kn rfl) (fun hb=>A3 rfl hb)) (AC rfl rfl rfl rfl rfl .nil))))))) ?_
 try refine A2 ?_
 exact A8 rfl rfl (.tmp (kn rfl) (.nil)) (B4 rfl) rfl
set_option maxHeartbeats 2000000 in
theorem UZ(v:Vl):EF Try.prog [] 101 [.many (vd v)] (.part (tP (GQ v))):=by
 refine AH 52 Try.func101 rfl rfl rfl fun w D=>?_
 try refine A2 ?_
 refine AF ?_
 refine BX 1 rfl rfl rfl rfl (kn rfl) rfl rfl rfl rfl ?_
 refine BY ?_
 refine AD ?_
 try refine A2 ?_
 refine A1 (A4 rfl rfl rfl (A0 rfl (kn rfl) off_27_0) (A4 rfl rfl rfl (A5 rfl (kn rfl) rfl rfl one_3) .nil)) ?_
 try refine A2 ?_
 try refine A2 ?_
 refine A1 (A4 rfl rfl rfl (A6 rfl (kn rfl) (kn rfl) AO) (AC rfl rfl rfl rfl rfl .nil)) ?_
 try refine A2 ?_
 refine AA rfl (fun q1=>?_) (fun q1=>?_)
 ·have h1:=of_decide_eq_true q1
  try refine A2 ?_
  refine AF ?_
  refine AG (A0 rfl (kn rfl) off_27_1) ?_
  refine C7 rfl rfl rfl (kn rfl) rfl (kn rfl) rfl rfl sz_22 rfl ?_
  refine AD ?_
  try refine A2 ?_
  refine A1 (A4 rfl rfl rfl (A0 rfl (kn rfl) off_27_1) (A4 rfl rfl rfl (A5 rfl (kn rfl) rfl rfl one_22) (A4 rfl rfl rfl (A6 rfl (kn rfl) (kn rfl) AO) (A9 rfl rfl rfl rfl rfl (Walk.gd _ rfl rfl rfl (fun h=>A0 rfl (kn rfl) off_27_2) (Walk.gd _ rfl rfl rfl (fun h=>A5 rfl (A3 rfl h) rfl rfl one_9) (Walk.gd _ rfl rfl rfl (fun h=>A6 rfl (A3 rfl h) (kn rfl) (DG (b:=[]))) (A4 rfl rfl rfl (AQ rfl (kn rfl) (fun hb=>A3 rfl hb)) (A9 rfl rfl rfl rfl rfl (Walk.gd _ rfl rfl rfl (fun h=>A0 rfl (kn rfl) off_27_3) (Walk.gd _ rfl rfl rfl (fun h=>A5 rfl (A3 rfl h) rfl rfl one_23) (Walk.gd _ rfl rfl rfl (fun h=>AT rfl (A3 rfl h) sle_23) (Walk.gd _ rfl rfl rfl (fun h=>A6 rfl (A3 rfl h) (kn rfl) AO) (A4 rfl rfl rfl (AQ rfl (kn rfl) (fun hb=>A3 rfl hb)) (A9 rfl rfl rfl rfl rfl (Walk.gd _ rfl rfl rfl (fun h=>A0 rfl (kn rfl) off_27_4) (Walk.gd _ rfl rfl rfl (fun h=>A5 rfl (A3 rfl h) rfl rfl one_9) (Walk.gd _ rfl rfl rfl (fun h=>A6 rfl (A3 rfl h) (kn rfl) (DG (b:=[]))) (A4 rfl rfl rfl (AQ rfl (kn rfl) (fun hb=>A3 rfl hb)) (A9 rfl rfl rfl rfl rfl (Walk.gd _ rfl rfl rfl (fun h=>A0 rfl (kn rfl) off_27_5) (Walk.gd _ rfl rfl rfl (fun h=>A5 rfl (A3 rfl h) rfl rfl one_24) (Walk.gd _ rfl rfl rfl (fun h=>AT rfl (A3 rfl h) sle_24) (Walk.gd _ rfl rfl rfl (fun h=>A6 rfl (A3 rfl h) (kn rfl) AO) (A4 rfl rfl rfl (AQ rfl (kn rfl) (fun hb=>A3 rfl hb)) (A9 rfl rfl rfl rfl rfl (Walk.gd _ rfl rfl rfl (fun h=>A0 rfl (kn rfl) off_27_6) (Walk.gd _ rfl rfl rfl (fun h=>A5 rfl (A3 rfl h) rfl rfl one_25) (Walk.gd _ rfl rfl rfl (fun h=>AT rfl (A3 rfl h) sle_25) (Walk.gd _ rfl rfl rfl (fun h=>A6 rfl (A3 rfl h) (kn rfl) AO) (A4 rfl rfl rfl (AQ rfl (kn rfl) (fun hb=>A3 rfl hb)) (AC rfl rfl rfl rfl rfl .nil)))))))))))))))))))))))))))))))) ?_
  try refine A2 ?_
  exact A8 rfl rfl (.tmp (kn rfl) (.nil)) (B4 (by simp[GQ,h1,Bool.and_assoc])) rfl
 have n1:=of_decide_eq_false q1
 try refine A2 ?_
 refine A1 (A4 rfl rfl rfl (A6 rfl (kn rfl) (kn rfl) AO) (AC rfl rfl rfl rfl rfl .nil)) ?_
 try refine A2 ?_
 refine AA rfl (fun q2=>?_) (fun q2=>?_)
 ·have h2:=of_decide_eq_true q2
  try refine A2 ?_
  refine AF ?_
  refine AG (A0 rfl (kn rfl) off_27_2) ?_
  refine C7 rfl rfl rfl (kn rfl) rfl (kn rfl) rfl rfl sz_9 rfl ?_
  refine AD ?_
  try refine A2 ?_
  refine A1 (A4 rfl rfl rfl (A0 rfl (kn rfl) off_27_1) (A4 rfl rfl rfl (A5 rfl (kn rfl) rfl rfl one_22) (A4 rfl rfl rfl (A6 rfl (kn rfl) (kn rfl) AO) (A9 rfl rfl rfl rfl rfl (Walk.gd _ rfl rfl rfl (fun h=>A0 rfl (kn rfl) off_27_2) (Walk.gd _ rfl rfl rfl (fun h=>A5 rfl (A3 rfl h) rfl rfl one_9) (Walk.gd _ rfl rfl rfl (fun h=>A6 rfl (A3 rfl h) (kn rfl) (DG (a:=[]) (b:=[]))) (A4 rfl rfl rfl (AQ rfl (kn rfl) (fun hb=>A3 rfl hb)) (A9 rfl rfl rfl rfl rfl (Walk.gd _ rfl rfl rfl (fun h=>A0 rfl (kn rfl) off_27_3) (Walk.gd _ rfl rfl rfl (fun h=>A5 rfl (A3 rfl h) rfl rfl one_23) (Walk.gd _ rfl rfl rfl (fun h=>AT rfl (A3 rfl h) sle_23) (Walk.gd _ rfl rfl rfl (fun h=>A6 rfl (A3 rfl h) (kn rfl) AO) (A4 rfl rfl rfl (AQ rfl (kn rfl) (fun hb=>A3 rfl hb)) (A9 rfl rfl rfl rfl rfl (Walk.gd _ rfl rfl rfl (fun h=>A0 rfl (kn rfl) off_27_4) (Walk.gd _ rfl rfl rfl (fun h=>A5 rfl (A3 rfl h) rfl rfl one_9) (Walk.gd _ rfl rfl rfl (fun h=>A6 rfl (A3 rfl h) (kn rfl) (DG (b:=[]))) (A4 rfl rfl rfl (AQ rfl (kn rfl) (fun hb=>A3 rfl hb)) (A9 rfl rfl rfl rfl rfl (Walk.gd _ rfl rfl rfl (fun h=>A0 rfl (kn rfl) off_27_5) (Walk.gd _ rfl rfl rfl (fun h=>A5 rfl (A3 rfl h) rfl rfl one_24) (Walk.gd _ rfl rfl rfl (fun h=>AT rfl (A3 rfl h) sle_24) (Walk.gd _ rfl rfl rfl (fun h=>A6 rfl (A3 rfl h) (kn rfl) AO) (A4 rfl rfl rfl (AQ rfl (kn rfl) (fun hb=>A3 rfl hb)) (A9 rfl rfl rfl rfl rfl (Walk.gd _ rfl rfl rfl (fun h=>A0 rfl (kn rfl) off_27_6) (Walk.gd _ rfl rfl rfl (fun h=>A5 rfl (A3 rfl h) rfl rfl one_25) (Walk.gd _ rfl rfl rfl (fun h=>AT rfl (A3 rfl h) sle_25) (Walk.gd _ rfl rfl rfl (fun h=>A6 rfl (A3 rfl h) (kn rfl) AO) (A4 rfl rfl rfl (AQ rfl (kn rfl) (fun hb=>A3 rfl hb)) (AC rfl rfl rfl rfl rfl .nil)))))))))))))))))))))))))))))))) ?_
  try refine A2 ?_
  exact A8 rfl rfl (.tmp (kn rfl) (.nil)) (B4 (by simp[GQ,h2,Bool.and_assoc])) rfl
 have n2:=of_decide_eq_false q2
 try refine A2 ?_
 refine A1 (A4 rfl rfl rfl (A6 rfl (kn rfl) (kn rfl) AO) (AC rfl rfl rfl rfl rfl .nil)) ?_
 try refine A2 ?_
 refine AA rfl (fun q3=>?_) (fun q3=>?_)
 ·have h3:=of_decide_eq_true q3
  try refine A2 ?_
  refine AF ?_
  refine AG (A0 rfl (kn rfl) off_27_3) ?_
  refine C7 rfl rfl rfl (kn rfl) rfl (kn rfl) rfl rfl sz_23 rfl ?_
  refine AG (A0 rfl (kn rfl) off_27_4) ?_
  refine C7 rfl rfl rfl (kn rfl) rfl (kn rfl) rfl rfl sz_9 rfl ?_
  refine AD ?_
  try refine A2 ?_
  refine A1 (A4 rfl rfl rfl (A0 rfl (kn rfl) off_27_1) (A4 rfl rfl rfl (A5 rfl (kn rfl) rfl rfl one_22) (A4 rfl rfl rfl (A6 rfl (kn rfl) (kn rfl) AO) (A9 rfl rfl rfl rfl rfl (Walk.gd _ rfl rfl rfl (fun h=>A0 rfl (kn rfl) off_27_2) (Walk.gd _ rfl rfl rfl (fun h=>A5 rfl (A3 rfl h) rfl rfl one_9) (Walk.gd _ rfl rfl rfl (fun h=>A6 rfl (A3 rfl h) (kn rfl) (DG (b:=[]))) (A4 rfl rfl rfl (AQ rfl (kn rfl) (fun hb=>A3 rfl hb)) (A9 rfl rfl rfl rfl rfl (Walk.gd _ rfl rfl rfl (fun h=>A0 rfl (kn rfl) off_27_3) (Walk.gd _ rfl rfl rfl (fun h=>A5 rfl (A3 rfl h) rfl rfl one_23) (Walk.gd _ rfl rfl rfl (fun h=>KH rfl (A3 rfl h) sle_23) (Walk.gd _ rfl rfl rfl (fun h=>A6 rfl (A3 rfl h) (kn rfl) AO) (A4 rfl rfl rfl (AQ rfl (kn rfl) (fun hb=>A3 rfl hb)) (A9 rfl rfl rfl rfl rfl (Walk.gd _ rfl rfl rfl (fun h=>A0 rfl (kn rfl) off_27_4) (Walk.gd _ rfl rfl rfl (fun h=>A5 rfl (A3 rfl h) rfl rfl one_9) (Walk.gd _ rfl rfl rfl (fun h=>A6 rfl (A3 rfl h) (kn rfl) (DG (a:=[]) (b:=[]))) (A4 rfl rfl rfl (AQ rfl (kn rfl) (fun hb=>A3 rfl hb)) (A9 rfl rfl rfl rfl rfl (Walk.gd _ rfl rfl rfl (fun h=>A0 rfl (kn rfl) off_27_5) (Walk.gd _ rfl rfl rfl (fun h=>A5 rfl (A3 rfl h) rfl rfl one_24) (Walk.gd _ rfl rfl rfl (fun h=>AT rfl (A3 rfl h) sle_24) (Walk.gd _ rfl rfl rfl (fun h=>A6 rfl (A3 rfl h) (kn rfl) AO) (A4 rfl rfl rfl (AQ rfl (kn rfl) (fun hb=>A3 rfl hb)) (A9 rfl rfl rfl rfl rfl (Walk.gd _ rfl rfl rfl (fun h=>A0 rfl (kn rfl) off_27_6) (Walk.gd _ rfl rfl rfl (fun h=>A5 rfl (A3 rfl h) rfl rfl one_25) (Walk.gd _ rfl rfl rfl (fun h=>AT rfl (A3 rfl h) sle_25) (Walk.gd _ rfl rfl rfl (fun h=>A6 rfl (A3 rfl h) (kn rfl) AO) (A4 rfl rfl rfl (AQ rfl (kn rfl) (fun hb=>A3 rfl hb)) (AC rfl rfl rfl rfl rfl .nil)))))))))))))))))))))))))))))))) ?_
  try refine A2 ?_
  exact A8 rfl rfl (.tmp (kn rfl) (.nil)) (B4 (by simp[GQ,h3,Bool.and_assoc])) rfl
 have n3:=of_decide_eq_false q3
 try refine A2 ?_
 refine A1 (A4 rfl rfl rfl (A6 rfl (kn rfl) (kn rfl) AO) (AC rfl rfl rfl rfl rfl .nil)) ?_
 try refine A2 ?_
 refine AA rfl (fun q4=>?_) (fun q4=>?_)
 ·have h4:=of_decide_eq_true q4
  try refine A2 ?_
  refine AF ?_
  refine AG (A0 rfl (kn rfl) off_27_5) ?_
  refine C7 rfl rfl rfl (kn rfl) rfl (kn rfl) rfl rfl sz_24 rfl ?_
  refine AD ?_
  try refine A2 ?_
  refine A1 (A4 rfl rfl rfl (A0 rfl (kn rfl) off_27_1) (A4 rfl rfl rfl (A5 rfl (kn rfl) rfl rfl one_22) (A4 rfl rfl rfl (A6 rfl (kn rfl) (kn rfl) AO) (A9 rfl rfl rfl rfl rfl (Walk.gd _ rfl rfl rfl (fun h=>A0 rfl (kn rfl) off_27_2) (Walk.gd _ rfl rfl rfl (fun h=>A5 rfl (A3 rfl h) rfl rfl one_9) (Walk.gd _ rfl rfl rfl (fun h=>A6 rfl (A3 rfl h) (kn rfl) (DG (b:=[]))) (A4 rfl rfl rfl (AQ rfl (kn rfl) (fun hb=>A3 rfl hb)) (A9 rfl rfl rfl rfl rfl (Walk.gd _ rfl rfl rfl (fun h=>A0 rfl (kn rfl) off_27_3) (Walk.gd _ rfl rfl rfl (fun h=>A5 rfl (A3 rfl h) rfl rfl one_23) (Walk.gd _ rfl rfl rfl (fun h=>AT rfl (A3 rfl h) sle_23) (Walk.gd _ rfl rfl rfl (fun h=>A6 rfl (A3 rfl h) (kn rfl) AO) (A4 rfl rfl rfl (AQ rfl (kn rfl) (fun hb=>A3 rfl hb)) (A9 rfl rfl rfl rfl rfl (Walk.gd _ rfl rfl rfl (fun h=>A0 rfl (kn rfl) off_27_4) (Walk.gd _ rfl rfl rfl (fun h=>A5 rfl (A3 rfl h) rfl rfl one_9) (Walk.gd _ rfl rfl rfl (fun h=>A6 rfl (A3 rfl h) (kn rfl) (DG (b:=[]))) (A4 rfl rfl rfl (AQ rfl (kn rfl) (fun hb=>A3 rfl hb)) (A9 rfl rfl rfl rfl rfl (Walk.gd _ rfl rfl rfl (fun h=>A0 rfl (kn rfl) off_27_5) (Walk.gd _ rfl rfl rfl (fun h=>A5 rfl (A3 rfl h) rfl rfl one_24) (Walk.gd _ rfl rfl rfl (fun h=>KH rfl (A3 rfl h) sle_24) (Walk.gd _ rfl rfl rfl (fun h=>A6 rfl (A3 rfl h) (kn rfl) AO) (A4 rfl rfl rfl (AQ rfl (kn rfl) (fun hb=>A3 rfl hb)) (A9 rfl rfl rfl rfl rfl (Walk.gd _ rfl rfl rfl (fun h=>A0 rfl (kn rfl) off_27_6) (Walk.gd _ rfl rfl rfl (fun h=>A5 rfl (A3 rfl h) rfl rfl one_25) (Walk.gd _ rfl rfl rfl (fun h=>AT rfl (A3 rfl h) sle_25) (Walk.gd _ rfl rfl rfl (fun h=>A6 rfl (A3 rfl h) (kn rfl) AO) (A4 rfl rfl rfl (AQ rfl (kn rfl) (fun hb=>A3 rfl hb)) (AC rfl rfl rfl rfl rfl .nil)))))))))))))))))))))))))))))))) ?_
  try refine A2 ?_
  exact A8 rfl rfl (.tmp (kn rfl) (.nil)) (B4 (by simp[GQ,h4,Bool.and_assoc])) rfl
 have n4:=of_decide_eq_false q4
 try refine A2 ?_
 refine A1 (A4 rfl rfl rfl (A6 rfl (kn rfl) (kn rfl) AO) (AC rfl rfl rfl rfl rfl .nil)) ?_
 try refine A2 ?_
 refine AA rfl (fun q5=>?_) (fun q5=>?_)
 ·have h5:=of_decide_eq_true q5
  try refine A2 ?_
  refine AF ?_
  refine AG (A0 rfl (kn rfl) off_27_6) ?_
  refine C7 rfl rfl rfl (kn rfl) rfl (kn rfl) rfl rfl sz_25 rfl ?_
  refine AD ?_
  try refine A2 ?_
  refine A1 (A4 rfl rfl rfl (A0 rfl (kn rfl) off_27_1) (A4 rfl rfl rfl (A5 rfl (kn rfl) rfl rfl one_22) (A4 rfl rfl rfl (A6 rfl (kn rfl) (kn rfl) AO) (A9 rfl rfl rfl rfl rfl (Walk.gd _ rfl rfl rfl (fun h=>A0 rfl (kn rfl) off_27_2) (Walk.gd _ rfl rfl rfl (fun h=>A5 rfl (A3 rfl h) rfl rfl one_9) (Walk.gd _ rfl rfl rfl (fun h=>A6 rfl (A3 rfl h) (kn rfl) (DG (b:=[]))) (A4 rfl rfl rfl (AQ rfl (kn rfl) (fun hb=>A3 rfl hb)) (A9 rfl rfl rfl rfl rfl (Walk.gd _ rfl rfl rfl (fun h=>A0 rfl (kn rfl) off_27_3) (Walk.gd _ rfl rfl rfl (fun h=>A5 rfl (A3 rfl h) rfl rfl one_23) (Walk.gd _ rfl rfl rfl (fun h=>AT rfl (A3 rfl h) sle_23) (Walk.gd _ rfl rfl rfl (fun h=>A6 rfl (A3 rfl h) (kn rfl) AO) (A4 rfl rfl rfl (AQ rfl (kn rfl) (fun hb=>A3 rfl hb)) (A9 rfl rfl rfl rfl rfl (Walk.gd _ rfl rfl rfl (fun h=>A0 rfl (kn rfl) off_27_4) (Walk.gd _ rfl rfl rfl (fun h=>A5 rfl (A3 rfl h) rfl rfl one_9) (Walk.gd _ rfl rfl rfl (fun h=>A6 rfl (A3 rfl h) (kn rfl) (DG (b:=[]))) (A4 rfl rfl rfl (AQ rfl (kn rfl) (fun hb=>A3 rfl hb)) (A9 rfl rfl rfl rfl rfl (Walk.gd _ rfl rfl rfl (fun h=>A0 rfl (kn rfl) off_27_5) (Walk.gd _ rfl rfl rfl (fun h=>A5 rfl (A3 rfl h) rfl rfl one_24) (Walk.gd _ rfl rfl rfl (fun h=>AT rfl (A3 rfl h) sle_24) (Walk.gd _ rfl rfl rfl (fun h=>A6 rfl (A3 rfl h) (kn rfl) AO) (A4 rfl rfl rfl (AQ rfl (kn rfl) (fun hb=>A3 rfl hb)) (A9 rfl rfl rfl rfl rfl (Walk.gd _ rfl rfl rfl (fun h=>A0 rfl (kn rfl) off_27_6) (Walk.gd _ rfl rfl rfl (fun h=>A5 rfl (A3 rfl h) rfl rfl one_25) (Walk.gd _ rfl rfl rfl (fun h=>KH rfl (A3 rfl h) sle_25) (Walk.gd _ rfl rfl rfl (fun h=>A6 rfl (A3 rfl h) (kn rfl) AO) (A4 rfl rfl rfl (AQ rfl (kn rfl) (fun hb=>A3 rfl hb)) (AC rfl rfl rfl rfl rfl .nil)))))))))))))))))))))))))))))))) ?_
  try refine A2 ?_
  exact A8 rfl rfl (.tmp (kn rfl) (.nil)) (B4 (by simp[GQ,h5,Bool.and_assoc])) rfl
 have n5:=of_decide_eq_false q5
 try refine A2 ?_
 refine A1 (A4 rfl rfl rfl (A0 rfl (kn rfl) off_27_1) (A4 rfl rfl rfl (A5 rfl (kn rfl) rfl rfl one_22) (A4 rfl rfl rfl (A6 rfl (kn rfl) (kn rfl) AO) (A9 rfl rfl rfl rfl rfl (Walk.gd _ rfl rfl rfl (fun h=>A0 rfl (kn rfl) off_27_2) (Walk.gd _ rfl rfl rfl (fun h=>A5 rfl (A3 rfl h) rfl rfl one_9) (Walk.gd _ rfl rfl rfl (fun h=>A6 rfl (A3 rfl h) (kn rfl) (DG (b:=[]))) (A4 rfl rfl rfl (AQ rfl (kn rfl) (fun hb=>A3 rfl hb)) (A9 rfl rfl rfl rfl rfl (Walk.gd _ rfl rfl rfl (fun h=>A0 rfl (kn rfl) off_27_3) (Walk.gd _ rfl rfl rfl (fun h=>A5 rfl (A3 rfl h) rfl rfl one_23) (Walk.gd _ rfl rfl rfl (fun h=>AT rfl (A3 rfl h) sle_23) (Walk.gd _ rfl rfl rfl (fun h=>A6 rfl (A3 rfl h) (kn rfl) AO) (A4 rfl rfl rfl (AQ rfl (kn rfl) (fun hb=>A3 rfl hb)) (A9 rfl rfl rfl rfl rfl (Walk.gd _ rfl rfl rfl (fun h=>A0 rfl (kn rfl) off_27_4) (Walk.gd _ rfl rfl rfl (fun h=>A5 rfl (A3 rfl h) rfl rfl one_9) (Walk.gd _ rfl rfl rfl (fun h=>A6 rfl (A3 rfl h) (kn rfl) (DG (b:=[]))) (A4 rfl rfl rfl (AQ rfl (kn rfl) (fun hb=>A3 rfl hb)) (A9 rfl rfl rfl rfl rfl (Walk.gd _ rfl rfl rfl (fun h=>A0 rfl (kn rfl) off_27_5) (Walk.gd _ rfl rfl rfl (fun h=>A5 rfl (A3 rfl h) rfl rfl one_24) (Walk.gd _ rfl rfl rfl (fun h=>AT rfl (A3 rfl h) sle_24) (Walk.gd _ rfl rfl rfl (fun h=>A6 rfl (A3 rfl h) (kn rfl) AO) (A4 rfl rfl rfl (AQ rfl (kn rfl) (fun hb=>A3 rfl hb)) (A9 rfl rfl rfl rfl rfl (Walk.gd _ rfl rfl rfl (fun h=>A0 rfl (kn rfl) off_27_6) (Walk.gd _ rfl rfl rfl (fun h=>A5 rfl (A3 rfl h) rfl rfl one_25) (Walk.gd _ rfl rfl rfl (fun h=>AT rfl (A3 rfl h) sle_25) (Walk.gd _ rfl rfl rfl (fun h=>A6 rfl (A3 rfl h) (kn rfl) AO) (A4 rfl rfl rfl (AQ rfl (kn rfl) (fun hb=>A3 rfl hb)) (AC rfl rfl rfl rfl rfl .nil)))))))))))))))))))))))))))))))) ?_
 try refine A2 ?_
 exact A8 rfl rfl (.tmp (kn rfl) (.nil)) (B4 (by simp[GQ,n1,n2,n3,n4,n5,Bool.and_assoc])) rfl
theorem NN{α:Type}{p:α->Bool}{l:List α}{k:Nat}(hk:l.length<=k)(h:l.all p=(l.drop k).all p):l.all p=true:=by
 rw[h,List.drop_eq_nil_of_le hk]
 rfl
theorem KP{α:Type}{p:α->Bool}{l:List α}{k:Nat}{x:α}(hx:l[k]?=some x)(h:l.all p=(l.drop k).all p):l.all p=(p x&&(l.drop (k+1)).all p):=by
 rw[h,B6 hx,List.all_cons]
theorem LY(f:FuncId)(hfc:B8 Try.prog f=true)(l:List (Int×Vl))(hl:l.length<=1000000)(p:Int×Vl->Bool)(hc:∀ x∈l,EF Try.prog [] f [.many (fd x)] (.part (tP (p x)))):EF Try.prog [] 102 [.one (.row 8 l.length (l.flatMap fieldDats)),fP f] (.part (tP (l.all p))):=by
 refine AH 18 Try.func102 rfl rfl rfl fun w D=>?_
 try refine A2 ?_
 refine A1 (AC rfl rfl rfl rfl rfl .nil) ?_
 try refine A2 ?_
 refine A1 (A9 rfl rfl rfl rfl rfl (A4 rfl rfl rfl (AT rfl (kn rfl) sle_23) (A9 rfl rfl rfl rfl rfl .nil))) ?_
 try refine A2 ?_
 refine BB (ι:={ k:Nat // k<=l.length/\l.all p=(l.drop k).all p })
  (fun k=>[(1,.part (fP f)),(7,.part (.one (.row 8 l.length (l.flatMap fieldDats)))),(8,.is (.int .i64 (l.length:Int))),(9,.is (.int .i64 (k.1:Int)))])
  (fun _=>[]) (fun _=>[]) (fun k=>l.length-k.1) ⟨0,by omega,rfl⟩
  (fun K=>AM ⟨s_t,s_t,s_t,s_t,trivial⟩ trivial trivial) ?_
 rintro⟨k,hk,hw⟩
 dsimp only at hk hw ⊢
 try refine A2 ?_
 refine A1 (A4 rfl rfl rfl (A6 rfl (kn rfl) (kn rfl) B7) .nil) ?_
 try refine A2 ?_
 refine AA rfl (fun h=>?_) (fun h=>?_)
 ·have hlt:k<l.length:=by have:=of_decide_eq_true h;omega
  obtain⟨x,hx⟩:∃ x,l[k]?=some x:=⟨_,List.getElem?_eq_getElem hlt⟩
  have hs:=KP hx hw
  try refine A2 ?_
  refine AF ?_
  refine AG (AL rfl (kn rfl) (kn rfl) (by omega) hx B9 sle_23 esz_23 (BI x)) ?_
  refine AG (AJ rfl (kn rfl) agg_97 sz_97) ?_
  refine AV 6 [.is (.int .i64 0),.is (.int .i64 0),.is (.int .u64 0),.is (.string ⟨#[]⟩),.is (.slice none 0 0),.is (.string ⟨#[]⟩),.is (.slice none 0 0),.is (.slice none 0 0)] rfl rfl rfl rfl zr_97 (fun w D M V=>⟨rfl,fun j x v h1 h2=>AU _ h1 h2 rfl⟩) rfl rfl rfl rfl ?_
  refine AP rfl rfl rfl (kn rfl) rfl (kn rfl) rfl rfl sz_97 ?_
  refine AD ?_
  try refine A2 ?_
  refine A1 (A9 rfl rfl rfl rfl rfl (A4 rfl rfl rfl (A7 (ds:=[_,_,_,_,_,_,_,_]) 8 rfl (kn rfl) rfl rfl agg_97 sz_97 rfl) (A4 rfl rfl rfl (CZ rfl hfc (kn rfl) (hc x (List.mem_of_getElem? hx)) ⟨kn rfl,trivial⟩) (A4 rfl rfl rfl (D1 rfl (kn rfl)) .nil)))) ?_
  try refine A2 ?_
  refine AA rfl (fun h1=>?_) (fun h1=>?_)
  ·have e:l.all p=false:=by
    rw[hs,show p x=false by simpa using h1]
    rfl
   try refine A2 ?_
   refine A1 (AC rfl rfl rfl rfl rfl .nil) ?_
   try refine A2 ?_
   exact A8 rfl rfl (.tmp (kn rfl) (.nil)) (B4 e.symm) rfl
  try refine A2 ?_
  refine A1 (A4 rfl rfl rfl (A6 rfl (kn rfl) (kn rfl) (AS (by first | omega | (dsimp only;omega)))) (A9 rfl rfl rfl rfl rfl .nil)) ?_
  try refine A2 ?_
  refine AR ⟨k+1,by omega,?_⟩ (by dsimp only;omega) (fun K=>AM ⟨s_t,s_t,s_t,s_t,trivial⟩ trivial trivial)
  rw[hs,show p x=true by simpa using h1]
  rfl
 have e:l.all p=true:=NN (by have:=of_decide_eq_false h;omega) hw
 try refine A2 ?_
 refine A1 (AC rfl rfl rfl rfl rfl .nil) ?_
 try refine A2 ?_
 exact A8 rfl rfl (.tmp (kn rfl) (.nil)) (B4 e.symm) rfl
theorem OG(f:FuncId)(hfc:B8 Try.prog f=true)(l:List (Vl))(hl:l.length<=1000000)(p:Vl->Bool)(hc:∀ x∈l,EF Try.prog [] f [.many (vd x)] (.part (tP (p x)))):EF Try.prog [] 105 [.one (.row 7 l.length (l.flatMap Vl.dats)),fP f] (.part (tP (l.all p))):=by
 refine AH 18 Try.func105 rfl rfl rfl fun w D=>?_
 try refine A2 ?_
 refine A1 (AC rfl rfl rfl rfl rfl .nil) ?_
 try refine A2 ?_
 refine A1 (A9 rfl rfl rfl rfl rfl (A4 rfl rfl rfl (AT rfl (kn rfl) sle_24) (A9 rfl rfl rfl rfl rfl .nil))) ?_
 try refine A2 ?_
 refine BB (ι:={ k:Nat // k<=l.length/\l.all p=(l.drop k).all p })
  (fun k=>[(1,.part (fP f)),(7,.part (.one (.row 7 l.length (l.flatMap Vl.dats)))),(8,.is (.int .i64 (l.length:Int))),(9,.is (.int .i64 (k.1:Int)))])
  (fun _=>[]) (fun _=>[]) (fun k=>l.length-k.1) ⟨0,by omega,rfl⟩
  (fun K=>AM ⟨s_t,s_t,s_t,s_t,trivial⟩ trivial trivial) ?_
 rintro⟨k,hk,hw⟩
 dsimp only at hk hw ⊢
 try refine A2 ?_
 refine A1 (A4 rfl rfl rfl (A6 rfl (kn rfl) (kn rfl) B7) .nil) ?_
 try refine A2 ?_
 refine AA rfl (fun h=>?_) (fun h=>?_)
 ·have hlt:k<l.length:=by have:=of_decide_eq_true h;omega
  obtain⟨x,hx⟩:∃ x,l[k]?=some x:=⟨_,List.getElem?_eq_getElem hlt⟩
  have hs:=KP hx hw
  try refine A2 ?_
  refine AF ?_
  refine AG (AL rfl (kn rfl) (kn rfl) (by omega) hx Vl.dats_len sle_24 esz_24 (DP x)) ?_
  refine AG (AJ rfl (kn rfl) agg_27 sz_27) ?_
  refine AV 6 [.is (.int .i64 0),.is (.int .u64 0),.is (.string ⟨#[]⟩),.is (.slice none 0 0),.is (.string ⟨#[]⟩),.is (.slice none 0 0),.is (.slice none 0 0)] rfl rfl rfl rfl zr_27 (fun w D M V=>⟨rfl,fun j x v h1 h2=>AU _ h1 h2 rfl⟩) rfl rfl rfl rfl ?_
  refine AP rfl rfl rfl (kn rfl) rfl (kn rfl) rfl rfl sz_27 ?_
  refine AD ?_
  try refine A2 ?_
  refine A1 (A9 rfl rfl rfl rfl rfl (A4 rfl rfl rfl (A7 (ds:=[_,_,_,_,_,_,_]) 7 rfl (kn rfl) rfl rfl agg_27 sz_27 rfl) (A4 rfl rfl rfl (CZ rfl hfc (kn rfl) (hc x (List.mem_of_getElem? hx)) ⟨kn rfl,trivial⟩) (A4 rfl rfl rfl (D1 rfl (kn rfl)) .nil)))) ?_
  try refine A2 ?_
  refine AA rfl (fun h1=>?_) (fun h1=>?_)
  ·have e:l.all p=false:=by
    rw[hs,show p x=false by simpa using h1]
    rfl
   try refine A2 ?_
   refine A1 (AC rfl rfl rfl rfl rfl .nil) ?_
   try refine A2 ?_
   exact A8 rfl rfl (.tmp (kn rfl) (.nil)) (B4 e.symm) rfl
  try refine A2 ?_
  refine A1 (A4 rfl rfl rfl (A6 rfl (kn rfl) (kn rfl) (AS (by first | omega | (dsimp only;omega)))) (A9 rfl rfl rfl rfl rfl .nil)) ?_
  try refine A2 ?_
  refine AR ⟨k+1,by omega,?_⟩ (by dsimp only;omega) (fun K=>AM ⟨s_t,s_t,s_t,s_t,trivial⟩ trivial trivial)
  rw[hs,show p x=true by simpa using h1]
  rfl
 have e:l.all p=true:=NN (by have:=of_decide_eq_false h;omega) hw
 try refine A2 ?_
 refine A1 (AC rfl rfl rfl rfl rfl .nil) ?_
 try refine A2 ?_
 exact A8 rfl rfl (.tmp (kn rfl) (.nil)) (B4 e.symm) rfl
abbrev kB(z:Int):BL:=[(3,⟨3,[.is (.int .i64 z)]⟩)]
abbrev WT:IV:=.clo (.func 113) [] [.box 3 0]
abbrev YB(z:Int)(b:Bool)(y:IV)(B1:BL)(R1:RL):Prop:=y=.part (tP b)/\B1=kB z/\R1=[]
theorem YB.tidy{z:Int}{b:Bool}(y:IV)(B1:BL)(R1:RL)(h:YB z b y B1 R1):QE (kB z) [] y B1 R1:=by
 obtain⟨rfl,rfl,rfl⟩:=h
 exact⟨rfl,rfl,rfl,rfl⟩
theorem NP(z:Int)(l:List (Vl×Vl))(hl:l.length<=1000000)(p:Vl×Vl->Bool)(hc:∀ x∈l,EG Try.prog [] 113 [.part (.many (pd x)),.box 3 0] (kB z) [] (YB z (p x))):EG Try.prog [] 112 [.part (.one (.row 14 l.length (l.flatMap pairDats))),WT] (kB z) [] (YB z (l.all p)):=by
 refine ET 18 Try.func112 rfl rfl rfl fun w D bor mb=>?_
 try refine A2 ?_
 refine A1 (AC rfl rfl rfl rfl rfl .nil) ?_
 try refine A2 ?_
 refine A1 (A9 rfl rfl rfl rfl rfl (A4 rfl rfl rfl (AT rfl (kn rfl) sle_25) (A9 rfl rfl rfl rfl rfl .nil))) ?_
 try refine A2 ?_
 refine BB (ι:={ k:Nat // k<=l.length/\l.all p=(l.drop k).all p })
  (fun k=>[(1,WT),(7,.part (.one (.row 14 l.length (l.flatMap pairDats)))),(8,.is (.int .i64 (l.length:Int))),(9,.is (.int .i64 (k.1:Int)))])
  (fun _=>kB z) (fun _=>[]) (fun k=>l.length-k.1) ⟨0,by omega,rfl⟩
  (fun K=>AM ⟨s_t,s_t,s_t,s_t,trivial⟩ ⟨s_b,trivial⟩ trivial) ?_
 rintro⟨k,hk,hw⟩
 dsimp only at hk hw ⊢
 try refine A2 ?_
 refine A1 (A4 rfl rfl rfl (A6 rfl (kn rfl) (kn rfl) B7) .nil) ?_
 try refine A2 ?_
 refine AA rfl (fun h=>?_) (fun h=>?_)
 ·have hlt:k<l.length:=by have:=of_decide_eq_true h;omega
  obtain⟨x,hx⟩:∃ x,l[k]?=some x:=⟨_,List.getElem?_eq_getElem hlt⟩
  have hs:=KP hx hw
  try refine A2 ?_
  refine AF ?_
  refine AG (AL rfl (kn rfl) (kn rfl) (by omega) hx BO sle_25 esz_25 (BS x)) ?_
  refine AG (AJ rfl (kn rfl) agg_101 sz_101) ?_
  refine AV 6 [.is (.int .i64 0),.is (.int .u64 0),.is (.string ⟨#[]⟩),.is (.slice none 0 0),.is (.string ⟨#[]⟩),.is (.slice none 0 0),.is (.slice none 0 0),.is (.int .i64 0),.is (.int .u64 0),.is (.string ⟨#[]⟩),.is (.slice none 0 0),.is (.string ⟨#[]⟩),.is (.slice none 0 0),.is (.slice none 0 0)] rfl rfl rfl rfl zr_101 (fun w D M V=>⟨rfl,fun j x v h1 h2=>AU _ h1 h2 rfl⟩) rfl rfl rfl rfl ?_
  refine AP rfl rfl rfl (kn rfl) rfl (kn rfl) rfl rfl sz_101 ?_
  refine AD ?_
  try refine A2 ?_
  refine AF ?_
  refine BA ?_
  refine AG (A7 (ds:=[_,_,_,_,_,_,_,_,_,_,_,_,_,_]) 14 rfl (kn rfl) rfl rfl agg_101 sz_101 rfl) ?_
  refine J6 (zs:=[_]) rfl rfl rfl rfl (by kernel_rfl) (hc x (List.mem_of_getElem? hx)) ⟨rfl,trivial⟩ trivial (kn rfl) ⟨(kn rfl),trivial⟩ rfl (YB.tidy) ?_
  rintro _ _ _ ⟨rfl,rfl,rfl⟩
  refine AG (D1 rfl (kn rfl)) ?_
  refine AD ?_
  try refine A2 ?_
  refine AA rfl (fun h1=>?_) (fun h1=>?_)
  ·have e:l.all p=false:=by
    rw[hs,show p x=false by simpa using h1]
    rfl
   try refine A2 ?_
   refine A1 (AC rfl rfl rfl rfl rfl .nil) ?_
   try refine A2 ?_
   exact JC (kB z) ([]) rfl (.tmp (kn rfl) (.nil)) (Imp.refl _) ⟨s_b,trivial⟩ trivial (⟨by rw[e];rfl,rfl,rfl⟩)
  try refine A2 ?_
  refine A1 (A4 rfl rfl rfl (A6 rfl (kn rfl) (kn rfl) (AS (by first | omega | (dsimp only;omega)))) (A9 rfl rfl rfl rfl rfl .nil)) ?_
  try refine A2 ?_
  refine AR ⟨k+1,by omega,?_⟩ (by dsimp only;omega) (fun K=>AM ⟨s_t,s_t,s_t,s_t,trivial⟩ ⟨s_b,trivial⟩ trivial)
  rw[hs,show p x=true by simpa using h1]
  rfl
 have e:l.all p=true:=NN (by have:=of_decide_eq_false h;omega) hw
 try refine A2 ?_
 refine A1 (AC rfl rfl rfl rfl rfl .nil) ?_
 try refine A2 ?_
 exact JC (kB z) ([]) rfl (.tmp (kn rfl) (.nil)) (Imp.refl _) ⟨s_b,trivial⟩ trivial (⟨by rw[e];rfl,rfl,rfl⟩)
theorem MS{α:Type}{c:α->α->Int}{l:List α}{k:Nat}(hk:l.length<=k+1)(h:BN c l=BN c (l.drop k)):BN c l=true:=by
 rw[h]
 have h1:(l.drop k).length<=1:=by rw[List.length_drop];omega
 revert h1
 cases l.drop k with
 | nil=>exact fun _=>rfl
 | cons x m=>cases m with
  | nil=>exact fun _=>rfl
  | cons y m=>intro h;simp at h
theorem LL{α:Type}{c:α->α->Int}{l:List α}{k:Nat}{x y:α}(hx:l[k]?=some x)(hy:l[k+1]?=some y)(h:BN c l=BN c (l.drop k)):BN c l=(decide (c x y<0)&&BN c (l.drop (k+1))):=by
 rw[h,B6 hx,B6 hy,BN]
theorem K7(f:FuncId)(hfc:B8 Try.prog f=true)(l:List (Int×Vl))(hl:l.length<=1000000)(c:Int×Vl->Int×Vl->Int)(hc:∀ x∈l,∀ y∈l,EF Try.prog [] f [.many (fd x),.many (fd y)] (.part (iP (c x y)))):EF Try.prog [] 104 [.one (.row 8 l.length (l.flatMap fieldDats)),fP f] (.part (tP (BN c l))):=by
 refine AH 24 Try.func104 rfl rfl rfl fun w D=>?_
 try refine A2 ?_
 refine A1 (AC rfl rfl rfl rfl rfl .nil) ?_
 try refine A2 ?_
 refine A1 (AC rfl rfl rfl rfl rfl .nil) ?_
 try refine A2 ?_
 refine BB (ι:={ k:Nat // k<=l.length/\BN c l=BN c (l.drop k) })
  (fun k=>[(0,.part (.one (.row 8 l.length (l.flatMap fieldDats)))),(1,.part (fP f)),(5,.is (.int .i64 ((k.1+1:Nat):Int)))])
  (fun _=>[]) (fun _=>[]) (fun k=>l.length-k.1) ⟨0,by omega,rfl⟩
  (fun K=>AM ⟨s_t,s_t,s_t,trivial⟩ trivial trivial) ?_
 rintro⟨k,hk,hw⟩
 dsimp only at hk hw ⊢
 try refine A2 ?_
 refine A1 (A9 rfl rfl rfl rfl rfl (A9 rfl rfl rfl rfl rfl (A4 rfl rfl rfl (AT rfl (kn rfl) sle_23) (A4 rfl rfl rfl (A6 rfl (kn rfl) (kn rfl) B7) .nil)))) ?_
 try refine A2 ?_
 refine AA rfl (fun h=>?_) (fun h=>?_)
 ·have hlt:k+1<l.length:=by have:=of_decide_eq_true h;omega
  obtain⟨x,hx⟩:∃ x,l[k]?=some x:=⟨_,List.getElem?_eq_getElem (by omega)⟩
  obtain⟨y,hy⟩:∃ y,l[k+1]?=some y:=⟨_,List.getElem?_eq_getElem hlt⟩
  have hx':l[(((k+1:Nat):Int)-1).toNat]?=some x:=by rw[show(((k+1:Nat):Int)-1).toNat=k by omega];exact hx
  have hs:=LL hx hy hw
  try refine A2 ?_
  refine CT C5 (by kernel_rfl) (A9 rfl rfl rfl rfl rfl (A9 rfl rfl rfl rfl rfl (A9 rfl rfl rfl rfl rfl (A4 rfl rfl rfl (A6 rfl (kn rfl) (kn rfl) (E2 (by first | omega | (dsimp only;omega)))) (A4 rfl rfl rfl (AL rfl (kn rfl) (kn rfl) (by omega) hx' B9 sle_23 esz_23 (BI x)) (A4 rfl rfl rfl (AJ rfl (kn rfl) agg_97 sz_97) (A9 rfl rfl rfl rfl rfl (A9 rfl rfl rfl rfl rfl (A4 rfl rfl rfl (AL rfl (kn rfl) (kn rfl) (by omega) hy B9 sle_23 esz_23 (BI y)) (A4 rfl rfl rfl (AJ rfl (kn rfl) agg_97 sz_97) (A4 rfl rfl rfl (CZ rfl hfc (kn rfl) (hc x (List.mem_of_getElem? hx) y (List.mem_of_getElem? hy)) ⟨kn rfl,kn rfl,trivial⟩) (A4 rfl rfl rfl (A6 rfl (kn rfl) (kn rfl) DM) .nil)))))))))))) ?_
  try refine A2 ?_
  refine AA rfl (fun h1=>?_) (fun h1=>?_)
  ·have e:BN c l=false:=by
    have h2:=of_decide_eq_true h1
    rw[hs,decide_eq_false (by omega)]
    rfl
   try refine A2 ?_
   refine A1 (AC rfl rfl rfl rfl rfl .nil) ?_
   try refine A2 ?_
   exact A8 rfl rfl (.tmp (kn rfl) (.nil)) (B4 e.symm) rfl
  try refine A2 ?_
  refine A1 (A9 rfl rfl rfl rfl rfl (A4 rfl rfl rfl (A6 rfl (kn rfl) (kn rfl) (AS (by first | omega | (dsimp only;omega)))) (AC rfl rfl rfl rfl rfl .nil))) ?_
  try refine A2 ?_
  refine AR ⟨k+1,by omega,?_⟩ (by dsimp only;omega) (fun K=>AM ⟨s_t,s_t,s_t,trivial⟩ trivial trivial)
  have h2:=of_decide_eq_false h1
  rw[hs,decide_eq_true (by omega)]
  rfl
 have e:BN c l=true:=MS (by have:=of_decide_eq_false h;omega) hw
 try refine A2 ?_
 refine A1 (AC rfl rfl rfl rfl rfl .nil) ?_
 try refine A2 ?_
 exact A8 rfl rfl (.tmp (kn rfl) (.nil)) (B4 e.symm) rfl
theorem LC(f:FuncId)(hfc:B8 Try.prog f=true)(l:List (Vl×Vl))(hl:l.length<=1000000)(c:Vl×Vl->Vl×Vl->Int)(hc:∀ x∈l,∀ y∈l,EF Try.prog [] f [.many (pd x),.many (pd y)] (.part (iP (c x y)))):EF Try.prog [] 115 [.one (.row 14 l.length (l.flatMap pairDats)),fP f] (.part (tP (BN c l))):=by
 refine AH 24 Try.func115 rfl rfl rfl fun w D=>?_
 try refine A2 ?_
 refine A1 (AC rfl rfl rfl rfl rfl .nil) ?_
 try refine A2 ?_
 refine A1 (AC rfl rfl rfl rfl rfl .nil) ?_
 try refine A2 ?_
 refine BB (ι:={ k:Nat // k<=l.length/\BN c l=BN c (l.drop k) })
  (fun k=>[(0,.part (.one (.row 14 l.length (l.flatMap pairDats)))),(1,.part (fP f)),(5,.is (.int .i64 ((k.1+1:Nat):Int)))])
  (fun _=>[]) (fun _=>[]) (fun k=>l.length-k.1) ⟨0,by omega,rfl⟩
  (fun K=>AM ⟨s_t,s_t,s_t,trivial⟩ trivial trivial) ?_
 rintro⟨k,hk,hw⟩
 dsimp only at hk hw ⊢
 try refine A2 ?_
 refine A1 (A9 rfl rfl rfl rfl rfl (A9 rfl rfl rfl rfl rfl (A4 rfl rfl rfl (AT rfl (kn rfl) sle_25) (A4 rfl rfl rfl (A6 rfl (kn rfl) (kn rfl) B7) .nil)))) ?_
 try refine A2 ?_
 refine AA rfl (fun h=>?_) (fun h=>?_)
 ·have hlt:k+1<l.length:=by have:=of_decide_eq_true h;omega
  obtain⟨x,hx⟩:∃ x,l[k]?=some x:=⟨_,List.getElem?_eq_getElem (by omega)⟩
  obtain⟨y,hy⟩:∃ y,l[k+1]?=some y:=⟨_,List.getElem?_eq_getElem hlt⟩
  have hx':l[(((k+1:Nat):Int)-1).toNat]?=some x:=by rw[show(((k+1:Nat):Int)-1).toNat=k by omega];exact hx
  have hs:=LL hx hy hw
  try refine A2 ?_
  refine CT C5 (by kernel_rfl) (A9 rfl rfl rfl rfl rfl (A9 rfl rfl rfl rfl rfl (A9 rfl rfl rfl rfl rfl (A4 rfl rfl rfl (A6 rfl (kn rfl) (kn rfl) (E2 (by first | omega | (dsimp only;omega)))) (A4 rfl rfl rfl (AL rfl (kn rfl) (kn rfl) (by omega) hx' BO sle_25 esz_25 (BS x)) (A4 rfl rfl rfl (AJ rfl (kn rfl) agg_101 sz_101) (A9 rfl rfl rfl rfl rfl (A9 rfl rfl rfl rfl rfl (A4 rfl rfl rfl (AL rfl (kn rfl) (kn rfl) (by omega) hy BO sle_25 esz_25 (BS y)) (A4 rfl rfl rfl (AJ rfl (kn rfl) agg_101 sz_101) (A4 rfl rfl rfl (CZ rfl hfc (kn rfl) (hc x (List.mem_of_getElem? hx) y (List.mem_of_getElem? hy)) ⟨kn rfl,kn rfl,trivial⟩) (A4 rfl rfl rfl (A6 rfl (kn rfl) (kn rfl) DM) .nil)))))))))))) ?_
  try refine A2 ?_
  refine AA rfl (fun h1=>?_) (fun h1=>?_)
  ·have e:BN c l=false:=by
    have h2:=of_decide_eq_true h1
    rw[hs,decide_eq_false (by omega)]
    rfl
   try refine A2 ?_
   refine A1 (AC rfl rfl rfl rfl rfl .nil) ?_
   try refine A2 ?_
   exact A8 rfl rfl (.tmp (kn rfl) (.nil)) (B4 e.symm) rfl
  try refine A2 ?_
  refine A1 (A9 rfl rfl rfl rfl rfl (A4 rfl rfl rfl (A6 rfl (kn rfl) (kn rfl) (AS (by first | omega | (dsimp only;omega)))) (AC rfl rfl rfl rfl rfl .nil))) ?_
  try refine A2 ?_
  refine AR ⟨k+1,by omega,?_⟩ (by dsimp only;omega) (fun K=>AM ⟨s_t,s_t,s_t,trivial⟩ trivial trivial)
  have h2:=of_decide_eq_false h1
  rw[hs,decide_eq_true (by omega)]
  rfl
 have e:BN c l=true:=MS (by have:=of_decide_eq_false h;omega) hw
 try refine A2 ?_
 refine A1 (AC rfl rfl rfl rfl rfl .nil) ?_
 try refine A2 ?_
 exact A8 rfl rfl (.tmp (kn rfl) (.nil)) (B4 e.symm) rfl
end Go.Proofs.Ytecfdcdkkgmkpaa
