/- Part 14. Conditions: as each theorem says. -/
import Derived.Test.YtecfdcdkkgmkpaaIS13
import Derived.Test.YtecfdcdkkgmkpaaProg
set_option maxRecDepth 100000
namespace Go.Proofs.Ytecfdcdkkgmkpaa
open Go.RowKit
theorem AT{a b:Bool}(h:a=b):Imp (L8 [.one (.cell (.bool a))]) (.part (tP b)):=Imp.of_eq (by rw[h];rfl)
theorem J9(n:Int):EF Try.prog [] 111 [iP n] (.part (tP (RJ n))):=by
 refine AF 9 Try.func111 rfl rfl rfl fun w D=>?_
 try refine A1 ?_
 refine A0 (AC rfl rfl rfl rfl rfl .nil) ?_
 try refine A1 ?_
 refine A0 (A8 rfl rfl rfl rfl rfl (A4 rfl rfl rfl (A6 rfl (kn rfl) (kn rfl) CW) (A8 rfl rfl rfl rfl rfl (Walk.gd _ rfl rfl rfl (fun h=>AS rfl (kn rfl)) (Walk.gd _ rfl rfl rfl (fun h=>A6 rfl (A2 rfl h) (kn rfl) NJ) (A4 rfl rfl rfl (AN rfl (kn rfl) (fun hb=>A2 rfl hb)) (AC rfl rfl rfl rfl rfl .nil))))))) ?_
 try refine A1 ?_
 exact A7 rfl rfl (.tmp (kn rfl) (.nil)) (AT rfl) rfl
set_option maxHeartbeats 2000000 in
theorem TV(v:Vl):EF Try.prog [] 101 [.many (vd v)] (.part (tP (G0 v))):=by
 refine AF 52 Try.func101 rfl rfl rfl fun w D=>?_
 try refine A1 ?_
 refine AG ?_
 refine BV 1 rfl rfl rfl rfl (kn rfl) rfl rfl rfl rfl ?_
 refine BW ?_
 refine AD ?_
 try refine A1 ?_
 refine A0 (A4 rfl rfl rfl (A3 rfl (kn rfl) off_27_0) (A4 rfl rfl rfl (A5 rfl (kn rfl) rfl rfl one_3) .nil)) ?_
 try refine A1 ?_
 try refine A1 ?_
 refine A0 (A4 rfl rfl rfl (A6 rfl (kn rfl) (kn rfl) AL) (AC rfl rfl rfl rfl rfl .nil)) ?_
 try refine A1 ?_
 refine AB rfl (fun q1=>?_) (fun q1=>?_)
 ·have h1:=of_decide_eq_true q1
  try refine A1 ?_
  refine AG ?_
  refine AK (A3 rfl (kn rfl) off_27_1) ?_
  refine BU rfl rfl rfl (kn rfl) rfl (kn rfl) rfl rfl sz_22 rfl ?_
  refine AD ?_
  try refine A1 ?_
  refine A0 (A4 rfl rfl rfl (A3 rfl (kn rfl) off_27_1) (A4 rfl rfl rfl (A5 rfl (kn rfl) rfl rfl one_22) (A4 rfl rfl rfl (A6 rfl (kn rfl) (kn rfl) AL) (A8 rfl rfl rfl rfl rfl (Walk.gd _ rfl rfl rfl (fun h=>A3 rfl (kn rfl) off_27_2) (Walk.gd _ rfl rfl rfl (fun h=>A5 rfl (A2 rfl h) rfl rfl one_9) (Walk.gd _ rfl rfl rfl (fun h=>A6 rfl (A2 rfl h) (kn rfl) (CS (b:=[]))) (A4 rfl rfl rfl (AN rfl (kn rfl) (fun hb=>A2 rfl hb)) (A8 rfl rfl rfl rfl rfl (Walk.gd _ rfl rfl rfl (fun h=>A3 rfl (kn rfl) off_27_3) (Walk.gd _ rfl rfl rfl (fun h=>A5 rfl (A2 rfl h) rfl rfl one_23) (Walk.gd _ rfl rfl rfl (fun h=>AY rfl (A2 rfl h) sle_23) (Walk.gd _ rfl rfl rfl (fun h=>A6 rfl (A2 rfl h) (kn rfl) AL) (A4 rfl rfl rfl (AN rfl (kn rfl) (fun hb=>A2 rfl hb)) (A8 rfl rfl rfl rfl rfl (Walk.gd _ rfl rfl rfl (fun h=>A3 rfl (kn rfl) off_27_4) (Walk.gd _ rfl rfl rfl (fun h=>A5 rfl (A2 rfl h) rfl rfl one_9) (Walk.gd _ rfl rfl rfl (fun h=>A6 rfl (A2 rfl h) (kn rfl) (CS (b:=[]))) (A4 rfl rfl rfl (AN rfl (kn rfl) (fun hb=>A2 rfl hb)) (A8 rfl rfl rfl rfl rfl (Walk.gd _ rfl rfl rfl (fun h=>A3 rfl (kn rfl) off_27_5) (Walk.gd _ rfl rfl rfl (fun h=>A5 rfl (A2 rfl h) rfl rfl one_24) (Walk.gd _ rfl rfl rfl (fun h=>AY rfl (A2 rfl h) sle_24) (Walk.gd _ rfl rfl rfl (fun h=>A6 rfl (A2 rfl h) (kn rfl) AL) (A4 rfl rfl rfl (AN rfl (kn rfl) (fun hb=>A2 rfl hb)) (A8 rfl rfl rfl rfl rfl (Walk.gd _ rfl rfl rfl (fun h=>A3 rfl (kn rfl) off_27_6) (Walk.gd _ rfl rfl rfl (fun h=>A5 rfl (A2 rfl h) rfl rfl one_25) (Walk.gd _ rfl rfl rfl (fun h=>AY rfl (A2 rfl h) sle_25) (Walk.gd _ rfl rfl rfl (fun h=>A6 rfl (A2 rfl h) (kn rfl) AL) (A4 rfl rfl rfl (AN rfl (kn rfl) (fun hb=>A2 rfl hb)) (AC rfl rfl rfl rfl rfl .nil)))))))))))))))))))))))))))))))) ?_
  try refine A1 ?_
  exact A7 rfl rfl (.tmp (kn rfl) (.nil)) (AT (by simp[G0,h1,Bool.and_assoc])) rfl
 have n1:=of_decide_eq_false q1
 try refine A1 ?_
 refine A0 (A4 rfl rfl rfl (A6 rfl (kn rfl) (kn rfl) AL) (AC rfl rfl rfl rfl rfl .nil)) ?_
 try refine A1 ?_
 refine AB rfl (fun q2=>?_) (fun q2=>?_)
 ·have h2:=of_decide_eq_true q2
  try refine A1 ?_
  refine AG ?_
  refine AK (A3 rfl (kn rfl) off_27_2) ?_
  refine BU rfl rfl rfl (kn rfl) rfl (kn rfl) rfl rfl sz_9 rfl ?_
  refine AD ?_
  try refine A1 ?_
  refine A0 (A4 rfl rfl rfl (A3 rfl (kn rfl) off_27_1) (A4 rfl rfl rfl (A5 rfl (kn rfl) rfl rfl one_22) (A4 rfl rfl rfl (A6 rfl (kn rfl) (kn rfl) AL) (A8 rfl rfl rfl rfl rfl (Walk.gd _ rfl rfl rfl (fun h=>A3 rfl (kn rfl) off_27_2) (Walk.gd _ rfl rfl rfl (fun h=>A5 rfl (A2 rfl h) rfl rfl one_9) (Walk.gd _ rfl rfl rfl (fun h=>A6 rfl (A2 rfl h) (kn rfl) (CS (a:=[]) (b:=[]))) (A4 rfl rfl rfl (AN rfl (kn rfl) (fun hb=>A2 rfl hb)) (A8 rfl rfl rfl rfl rfl (Walk.gd _ rfl rfl rfl (fun h=>A3 rfl (kn rfl) off_27_3) (Walk.gd _ rfl rfl rfl (fun h=>A5 rfl (A2 rfl h) rfl rfl one_23) (Walk.gd _ rfl rfl rfl (fun h=>AY rfl (A2 rfl h) sle_23) (Walk.gd _ rfl rfl rfl (fun h=>A6 rfl (A2 rfl h) (kn rfl) AL) (A4 rfl rfl rfl (AN rfl (kn rfl) (fun hb=>A2 rfl hb)) (A8 rfl rfl rfl rfl rfl (Walk.gd _ rfl rfl rfl (fun h=>A3 rfl (kn rfl) off_27_4) (Walk.gd _ rfl rfl rfl (fun h=>A5 rfl (A2 rfl h) rfl rfl one_9) (Walk.gd _ rfl rfl rfl (fun h=>A6 rfl (A2 rfl h) (kn rfl) (CS (b:=[]))) (A4 rfl rfl rfl (AN rfl (kn rfl) (fun hb=>A2 rfl hb)) (A8 rfl rfl rfl rfl rfl (Walk.gd _ rfl rfl rfl (fun h=>A3 rfl (kn rfl) off_27_5) (Walk.gd _ rfl rfl rfl (fun h=>A5 rfl (A2 rfl h) rfl rfl one_24) (Walk.gd _ rfl rfl rfl (fun h=>AY rfl (A2 rfl h) sle_24) (Walk.gd _ rfl rfl rfl (fun h=>A6 rfl (A2 rfl h) (kn rfl) AL) (A4 rfl rfl rfl (AN rfl (kn rfl) (fun hb=>A2 rfl hb)) (A8 rfl rfl rfl rfl rfl (Walk.gd _ rfl rfl rfl (fun h=>A3 rfl (kn rfl) off_27_6) (Walk.gd _ rfl rfl rfl (fun h=>A5 rfl (A2 rfl h) rfl rfl one_25) (Walk.gd _ rfl rfl rfl (fun h=>AY rfl (A2 rfl h) sle_25) (Walk.gd _ rfl rfl rfl (fun h=>A6 rfl (A2 rfl h) (kn rfl) AL) (A4 rfl rfl rfl (AN rfl (kn rfl) (fun hb=>A2 rfl hb)) (AC rfl rfl rfl rfl rfl .nil)))))))))))))))))))))))))))))))) ?_
  try refine A1 ?_
  exact A7 rfl rfl (.tmp (kn rfl) (.nil)) (AT (by simp[G0,h2,Bool.and_assoc])) rfl
 have n2:=of_decide_eq_false q2
 try refine A1 ?_
 refine A0 (A4 rfl rfl rfl (A6 rfl (kn rfl) (kn rfl) AL) (AC rfl rfl rfl rfl rfl .nil)) ?_
 try refine A1 ?_
 refine AB rfl (fun q3=>?_) (fun q3=>?_)
 ·have h3:=of_decide_eq_true q3
  try refine A1 ?_
  refine AG ?_
  refine AK (A3 rfl (kn rfl) off_27_3) ?_
  refine BU rfl rfl rfl (kn rfl) rfl (kn rfl) rfl rfl sz_23 rfl ?_
  refine AK (A3 rfl (kn rfl) off_27_4) ?_
  refine BU rfl rfl rfl (kn rfl) rfl (kn rfl) rfl rfl sz_9 rfl ?_
  refine AD ?_
  try refine A1 ?_
  refine A0 (A4 rfl rfl rfl (A3 rfl (kn rfl) off_27_1) (A4 rfl rfl rfl (A5 rfl (kn rfl) rfl rfl one_22) (A4 rfl rfl rfl (A6 rfl (kn rfl) (kn rfl) AL) (A8 rfl rfl rfl rfl rfl (Walk.gd _ rfl rfl rfl (fun h=>A3 rfl (kn rfl) off_27_2) (Walk.gd _ rfl rfl rfl (fun h=>A5 rfl (A2 rfl h) rfl rfl one_9) (Walk.gd _ rfl rfl rfl (fun h=>A6 rfl (A2 rfl h) (kn rfl) (CS (b:=[]))) (A4 rfl rfl rfl (AN rfl (kn rfl) (fun hb=>A2 rfl hb)) (A8 rfl rfl rfl rfl rfl (Walk.gd _ rfl rfl rfl (fun h=>A3 rfl (kn rfl) off_27_3) (Walk.gd _ rfl rfl rfl (fun h=>A5 rfl (A2 rfl h) rfl rfl one_23) (Walk.gd _ rfl rfl rfl (fun h=>JG rfl (A2 rfl h) sle_23) (Walk.gd _ rfl rfl rfl (fun h=>A6 rfl (A2 rfl h) (kn rfl) AL) (A4 rfl rfl rfl (AN rfl (kn rfl) (fun hb=>A2 rfl hb)) (A8 rfl rfl rfl rfl rfl (Walk.gd _ rfl rfl rfl (fun h=>A3 rfl (kn rfl) off_27_4) (Walk.gd _ rfl rfl rfl (fun h=>A5 rfl (A2 rfl h) rfl rfl one_9) (Walk.gd _ rfl rfl rfl (fun h=>A6 rfl (A2 rfl h) (kn rfl) (CS (a:=[]) (b:=[]))) (A4 rfl rfl rfl (AN rfl (kn rfl) (fun hb=>A2 rfl hb)) (A8 rfl rfl rfl rfl rfl (Walk.gd _ rfl rfl rfl (fun h=>A3 rfl (kn rfl) off_27_5) (Walk.gd _ rfl rfl rfl (fun h=>A5 rfl (A2 rfl h) rfl rfl one_24) (Walk.gd _ rfl rfl rfl (fun h=>AY rfl (A2 rfl h) sle_24) (Walk.gd _ rfl rfl rfl (fun h=>A6 rfl (A2 rfl h) (kn rfl) AL) (A4 rfl rfl rfl (AN rfl (kn rfl) (fun hb=>A2 rfl hb)) (A8 rfl rfl rfl rfl rfl (Walk.gd _ rfl rfl rfl (fun h=>A3 rfl (kn rfl) off_27_6) (Walk.gd _ rfl rfl rfl (fun h=>A5 rfl (A2 rfl h) rfl rfl one_25) (Walk.gd _ rfl rfl rfl (fun h=>AY rfl (A2 rfl h) sle_25) (Walk.gd _ rfl rfl rfl (fun h=>A6 rfl (A2 rfl h) (kn rfl) AL) (A4 rfl rfl rfl (AN rfl (kn rfl) (fun hb=>A2 rfl hb)) (AC rfl rfl rfl rfl rfl .nil)))))))))))))))))))))))))))))))) ?_
  try refine A1 ?_
  exact A7 rfl rfl (.tmp (kn rfl) (.nil)) (AT (by simp[G0,h3,Bool.and_assoc])) rfl
 have n3:=of_decide_eq_false q3
 try refine A1 ?_
 refine A0 (A4 rfl rfl rfl (A6 rfl (kn rfl) (kn rfl) AL) (AC rfl rfl rfl rfl rfl .nil)) ?_
 try refine A1 ?_
 refine AB rfl (fun q4=>?_) (fun q4=>?_)
 ·have h4:=of_decide_eq_true q4
  try refine A1 ?_
  refine AG ?_
  refine AK (A3 rfl (kn rfl) off_27_5) ?_
  refine BU rfl rfl rfl (kn rfl) rfl (kn rfl) rfl rfl sz_24 rfl ?_
  refine AD ?_
  try refine A1 ?_
  refine A0 (A4 rfl rfl rfl (A3 rfl (kn rfl) off_27_1) (A4 rfl rfl rfl (A5 rfl (kn rfl) rfl rfl one_22) (A4 rfl rfl rfl (A6 rfl (kn rfl) (kn rfl) AL) (A8 rfl rfl rfl rfl rfl (Walk.gd _ rfl rfl rfl (fun h=>A3 rfl (kn rfl) off_27_2) (Walk.gd _ rfl rfl rfl (fun h=>A5 rfl (A2 rfl h) rfl rfl one_9) (Walk.gd _ rfl rfl rfl (fun h=>A6 rfl (A2 rfl h) (kn rfl) (CS (b:=[]))) (A4 rfl rfl rfl (AN rfl (kn rfl) (fun hb=>A2 rfl hb)) (A8 rfl rfl rfl rfl rfl (Walk.gd _ rfl rfl rfl (fun h=>A3 rfl (kn rfl) off_27_3) (Walk.gd _ rfl rfl rfl (fun h=>A5 rfl (A2 rfl h) rfl rfl one_23) (Walk.gd _ rfl rfl rfl (fun h=>AY rfl (A2 rfl h) sle_23) (Walk.gd _ rfl rfl rfl (fun h=>A6 rfl (A2 rfl h) (kn rfl) AL) (A4 rfl rfl rfl (AN rfl (kn rfl) (fun hb=>A2 rfl hb)) (A8 rfl rfl rfl rfl rfl (Walk.gd _ rfl rfl rfl (fun h=>A3 rfl (kn rfl) off_27_4) (Walk.gd _ rfl rfl rfl (fun h=>A5 rfl (A2 rfl h) rfl rfl one_9) (Walk.gd _ rfl rfl rfl (fun h=>A6 rfl (A2 rfl h) (kn rfl) (CS (b:=[]))) (A4 rfl rfl rfl (AN rfl (kn rfl) (fun hb=>A2 rfl hb)) (A8 rfl rfl rfl rfl rfl (Walk.gd _ rfl rfl rfl (fun h=>A3 rfl (kn rfl) off_27_5) (Walk.gd _ rfl rfl rfl (fun h=>A5 rfl (A2 rfl h) rfl rfl one_24) (Walk.gd _ rfl rfl rfl (fun h=>JG rfl (A2 rfl h) sle_24) (Walk.gd _ rfl rfl rfl (fun h=>A6 rfl (A2 rfl h) (kn rfl) AL) (A4 rfl rfl rfl (AN rfl (kn rfl) (fun hb=>A2 rfl hb)) (A8 rfl rfl rfl rfl rfl (Walk.gd _ rfl rfl rfl (fun h=>A3 rfl (kn rfl) off_27_6) (Walk.gd _ rfl rfl rfl (fun h=>A5 rfl (A2 rfl h) rfl rfl one_25) (Walk.gd _ rfl rfl rfl (fun h=>AY rfl (A2 rfl h) sle_25) (Walk.gd _ rfl rfl rfl (fun h=>A6 rfl (A2 rfl h) (kn rfl) AL) (A4 rfl rfl rfl (AN rfl (kn rfl) (fun hb=>A2 rfl hb)) (AC rfl rfl rfl rfl rfl .nil)))))))))))))))))))))))))))))))) ?_
  try refine A1 ?_
  exact A7 rfl rfl (.tmp (kn rfl) (.nil)) (AT (by simp[G0,h4,Bool.and_assoc])) rfl
 have n4:=of_decide_eq_false q4
 try refine A1 ?_
 refine A0 (A4 rfl rfl rfl (A6 rfl (kn rfl) (kn rfl) AL) (AC rfl rfl rfl rfl rfl .nil)) ?_
 try refine A1 ?_
 refine AB rfl (fun q5=>?_) (fun q5=>?_)
 ·have h5:=of_decide_eq_true q5
  try refine A1 ?_
  refine AG ?_
  refine AK (A3 rfl (kn rfl) off_27_6) ?_
  refine BU rfl rfl rfl (kn rfl) rfl (kn rfl) rfl rfl sz_25 rfl ?_
  refine AD ?_
  try refine A1 ?_
  refine A0 (A4 rfl rfl rfl (A3 rfl (kn rfl) off_27_1) (A4 rfl rfl rfl (A5 rfl (kn rfl) rfl rfl one_22) (A4 rfl rfl rfl (A6 rfl (kn rfl) (kn rfl) AL) (A8 rfl rfl rfl rfl rfl (Walk.gd _ rfl rfl rfl (fun h=>A3 rfl (kn rfl) off_27_2) (Walk.gd _ rfl rfl rfl (fun h=>A5 rfl (A2 rfl h) rfl rfl one_9) (Walk.gd _ rfl rfl rfl (fun h=>A6 rfl (A2 rfl h) (kn rfl) (CS (b:=[]))) (A4 rfl rfl rfl (AN rfl (kn rfl) (fun hb=>A2 rfl hb)) (A8 rfl rfl rfl rfl rfl (Walk.gd _ rfl rfl rfl (fun h=>A3 rfl (kn rfl) off_27_3) (Walk.gd _ rfl rfl rfl (fun h=>A5 rfl (A2 rfl h) rfl rfl one_23) (Walk.gd _ rfl rfl rfl (fun h=>AY rfl (A2 rfl h) sle_23) (Walk.gd _ rfl rfl rfl (fun h=>A6 rfl (A2 rfl h) (kn rfl) AL) (A4 rfl rfl rfl (AN rfl (kn rfl) (fun hb=>A2 rfl hb)) (A8 rfl rfl rfl rfl rfl (Walk.gd _ rfl rfl rfl (fun h=>A3 rfl (kn rfl) off_27_4) (Walk.gd _ rfl rfl rfl (fun h=>A5 rfl (A2 rfl h) rfl rfl one_9) (Walk.gd _ rfl rfl rfl (fun h=>A6 rfl (A2 rfl h) (kn rfl) (CS (b:=[]))) (A4 rfl rfl rfl (AN rfl (kn rfl) (fun hb=>A2 rfl hb)) (A8 rfl rfl rfl rfl rfl (Walk.gd _ rfl rfl rfl (fun h=>A3 rfl (kn rfl) off_27_5) (Walk.gd _ rfl rfl rfl (fun h=>A5 rfl (A2 rfl h) rfl rfl one_24) (Walk.gd _ rfl rfl rfl (fun h=>AY rfl (A2 rfl h) sle_24) (Walk.gd _ rfl rfl rfl (fun h=>A6 rfl (A2 rfl h) (kn rfl) AL) (A4 rfl rfl rfl (AN rfl (kn rfl) (fun hb=>A2 rfl hb)) (A8 rfl rfl rfl rfl rfl (Walk.gd _ rfl rfl rfl (fun h=>A3 rfl (kn rfl) off_27_6) (Walk.gd _ rfl rfl rfl (fun h=>A5 rfl (A2 rfl h) rfl rfl one_25) (Walk.gd _ rfl rfl rfl (fun h=>JG rfl (A2 rfl h) sle_25) (Walk.gd _ rfl rfl rfl (fun h=>A6 rfl (A2 rfl h) (kn rfl) AL) (A4 rfl rfl rfl (AN rfl (kn rfl) (fun hb=>A2 rfl hb)) (AC rfl rfl rfl rfl rfl .nil)))))))))))))))))))))))))))))))) ?_
  try refine A1 ?_
  exact A7 rfl rfl (.tmp (kn rfl) (.nil)) (AT (by simp[G0,h5,Bool.and_assoc])) rfl
 have n5:=of_decide_eq_false q5
 try refine A1 ?_
 refine A0 (A4 rfl rfl rfl (A3 rfl (kn rfl) off_27_1) (A4 rfl rfl rfl (A5 rfl (kn rfl) rfl rfl one_22) (A4 rfl rfl rfl (A6 rfl (kn rfl) (kn rfl) AL) (A8 rfl rfl rfl rfl rfl (Walk.gd _ rfl rfl rfl (fun h=>A3 rfl (kn rfl) off_27_2) (Walk.gd _ rfl rfl rfl (fun h=>A5 rfl (A2 rfl h) rfl rfl one_9) (Walk.gd _ rfl rfl rfl (fun h=>A6 rfl (A2 rfl h) (kn rfl) (CS (b:=[]))) (A4 rfl rfl rfl (AN rfl (kn rfl) (fun hb=>A2 rfl hb)) (A8 rfl rfl rfl rfl rfl (Walk.gd _ rfl rfl rfl (fun h=>A3 rfl (kn rfl) off_27_3) (Walk.gd _ rfl rfl rfl (fun h=>A5 rfl (A2 rfl h) rfl rfl one_23) (Walk.gd _ rfl rfl rfl (fun h=>AY rfl (A2 rfl h) sle_23) (Walk.gd _ rfl rfl rfl (fun h=>A6 rfl (A2 rfl h) (kn rfl) AL) (A4 rfl rfl rfl (AN rfl (kn rfl) (fun hb=>A2 rfl hb)) (A8 rfl rfl rfl rfl rfl (Walk.gd _ rfl rfl rfl (fun h=>A3 rfl (kn rfl) off_27_4) (Walk.gd _ rfl rfl rfl (fun h=>A5 rfl (A2 rfl h) rfl rfl one_9) (Walk.gd _ rfl rfl rfl (fun h=>A6 rfl (A2 rfl h) (kn rfl) (CS (b:=[]))) (A4 rfl rfl rfl (AN rfl (kn rfl) (fun hb=>A2 rfl hb)) (A8 rfl rfl rfl rfl rfl (Walk.gd _ rfl rfl rfl (fun h=>A3 rfl (kn rfl) off_27_5) (Walk.gd _ rfl rfl rfl (fun h=>A5 rfl (A2 rfl h) rfl rfl one_24) (Walk.gd _ rfl rfl rfl (fun h=>AY rfl (A2 rfl h) sle_24) (Walk.gd _ rfl rfl rfl (fun h=>A6 rfl (A2 rfl h) (kn rfl) AL) (A4 rfl rfl rfl (AN rfl (kn rfl) (fun hb=>A2 rfl hb)) (A8 rfl rfl rfl rfl rfl (Walk.gd _ rfl rfl rfl (fun h=>A3 rfl (kn rfl) off_27_6) (Walk.gd _ rfl rfl rfl (fun h=>A5 rfl (A2 rfl h) rfl rfl one_25) (Walk.gd _ rfl rfl rfl (fun h=>AY rfl (A2 rfl h) sle_25) (Walk.gd _ rfl rfl rfl (fun h=>A6 rfl (A2 rfl h) (kn rfl) AL) (A4 rfl rfl rfl (AN rfl (kn rfl) (fun hb=>A2 rfl hb)) (AC rfl rfl rfl rfl rfl .nil)))))))))))))))))))))))))))))))) ?_
 try refine A1 ?_
 exact A7 rfl rfl (.tmp (kn rfl) (.nil)) (AT (by simp[G0,n1,n2,n3,n4,n5,Bool.and_assoc])) rfl
theorem MH{α:Type}{p:α->Bool}{l:List α}{k:Nat}(hk:l.length<=k)(h:l.all p=(l.drop k).all p):l.all p=true:=by
 rw[h,List.drop_eq_nil_of_le hk]
 rfl
theorem K5{α:Type}{p:α->Bool}{l:List α}{k:Nat}{x:α}(hx:l[k]?=some x)(h:l.all p=(l.drop k).all p):l.all p=(p x&&(l.drop (k+1)).all p):=by
 rw[h,BQ hx,List.all_cons]
theorem KV(f:FuncId)(hfc:AZ Try.prog f=true)(l:List (Int×Vl))(hl:l.length<=1000000)(p:Int×Vl->Bool)(hc:∀ x∈l,EF Try.prog [] f [.many (fd x)] (.part (tP (p x)))):EF Try.prog [] 102 [.one (.row 8 l.length (l.flatMap fieldDats)),fP f] (.part (tP (l.all p))):=by
 refine AF 18 Try.func102 rfl rfl rfl fun w D=>?_
 try refine A1 ?_
 refine A0 (AC rfl rfl rfl rfl rfl .nil) ?_
 try refine A1 ?_
 refine A0 (A8 rfl rfl rfl rfl rfl (A4 rfl rfl rfl (AY rfl (kn rfl) sle_23) (A8 rfl rfl rfl rfl rfl .nil))) ?_
 try refine A1 ?_
 refine BN (ι:={ k:Nat // k<=l.length/\l.all p=(l.drop k).all p })
  (fun k=>[(1,.part (fP f)),(7,.part (.one (.row 8 l.length (l.flatMap fieldDats)))),(8,.is (.int .i64 (l.length:Int))),(9,.is (.int .i64 (k.1:Int)))])
  (fun _=>[]) (fun _=>[]) (fun k=>l.length-k.1) ⟨0,by omega,rfl⟩
  (fun K=>AM ⟨s_t,s_t,s_t,s_t,trivial⟩ trivial trivial) ?_
 rintro⟨k,hk,hw⟩
 dsimp only at hk hw ⊢
 try refine A1 ?_
 refine A0 (A4 rfl rfl rfl (A6 rfl (kn rfl) (kn rfl) BM) .nil) ?_
 try refine A1 ?_
 refine AB rfl (fun h=>?_) (fun h=>?_)
 ·have hlt:k<l.length:=by have:=of_decide_eq_true h;omega
  obtain⟨x,hx⟩:∃ x,l[k]?=some x:=⟨_,List.getElem?_eq_getElem hlt⟩
  have hs:=K5 hx hw
  try refine A1 ?_
  refine AG ?_
  refine AK (AX rfl (kn rfl) (kn rfl) (by omega) hx BY sle_23 esz_23 (CM x)) ?_
  refine AK (AO rfl (kn rfl) agg_97 sz_97) ?_
  refine BB 6 [.is (.int .i64 0),.is (.int .i64 0),.is (.int .u64 0),.is (.string ⟨#[]⟩),.is (.slice none 0 0),.is (.string ⟨#[]⟩),.is (.slice none 0 0),.is (.slice none 0 0)] rfl rfl rfl rfl zr_97 (fun w D M V=>⟨rfl,fun j x v h1 h2=>BA _ h1 h2 rfl⟩) rfl rfl rfl rfl ?_
  refine B2 rfl rfl rfl (kn rfl) rfl (kn rfl) rfl rfl sz_97 ?_
  refine AD ?_
  try refine A1 ?_
  refine A0 (A8 rfl rfl rfl rfl rfl (A4 rfl rfl rfl (A9 (ds:=[_,_,_,_,_,_,_,_]) 8 rfl (kn rfl) rfl rfl agg_97 sz_97 rfl) (A4 rfl rfl rfl (CH rfl hfc (kn rfl) (hc x (List.mem_of_getElem? hx)) ⟨kn rfl,trivial⟩) (A4 rfl rfl rfl (DL rfl (kn rfl)) .nil)))) ?_
  try refine A1 ?_
  refine AB rfl (fun h1=>?_) (fun h1=>?_)
  ·have e:l.all p=false:=by
    rw[hs,show p x=false by simpa using h1]
    rfl
   try refine A1 ?_
   refine A0 (AC rfl rfl rfl rfl rfl .nil) ?_
   try refine A1 ?_
   exact A7 rfl rfl (.tmp (kn rfl) (.nil)) (AT e.symm) rfl
  try refine A1 ?_
  refine A0 (A4 rfl rfl rfl (A6 rfl (kn rfl) (kn rfl) (AW (by first | omega | (dsimp only;omega)))) (A8 rfl rfl rfl rfl rfl .nil)) ?_
  try refine A1 ?_
  refine AV ⟨k+1,by omega,?_⟩ (by dsimp only;omega) (fun K=>AM ⟨s_t,s_t,s_t,s_t,trivial⟩ trivial trivial)
  rw[hs,show p x=true by simpa using h1]
  rfl
 have e:l.all p=true:=MH (by have:=of_decide_eq_false h;omega) hw
 try refine A1 ?_
 refine A0 (AC rfl rfl rfl rfl rfl .nil) ?_
 try refine A1 ?_
 exact A7 rfl rfl (.tmp (kn rfl) (.nil)) (AT e.symm) rfl
theorem OM(f:FuncId)(hfc:AZ Try.prog f=true)(l:List (Vl))(hl:l.length<=1000000)(p:Vl->Bool)(hc:∀ x∈l,EF Try.prog [] f [.many (vd x)] (.part (tP (p x)))):EF Try.prog [] 105 [.one (.row 7 l.length (l.flatMap Vl.dats)),fP f] (.part (tP (l.all p))):=by
 refine AF 18 Try.func105 rfl rfl rfl fun w D=>?_
 try refine A1 ?_
 refine A0 (AC rfl rfl rfl rfl rfl .nil) ?_
 try refine A1 ?_
 refine A0 (A8 rfl rfl rfl rfl rfl (A4 rfl rfl rfl (AY rfl (kn rfl) sle_24) (A8 rfl rfl rfl rfl rfl .nil))) ?_
 try refine A1 ?_
 refine BN (ι:={ k:Nat // k<=l.length/\l.all p=(l.drop k).all p })
  (fun k=>[(1,.part (fP f)),(7,.part (.one (.row 7 l.length (l.flatMap Vl.dats)))),(8,.is (.int .i64 (l.length:Int))),(9,.is (.int .i64 (k.1:Int)))])
  (fun _=>[]) (fun _=>[]) (fun k=>l.length-k.1) ⟨0,by omega,rfl⟩
  (fun K=>AM ⟨s_t,s_t,s_t,s_t,trivial⟩ trivial trivial) ?_
 rintro⟨k,hk,hw⟩
 dsimp only at hk hw ⊢
 try refine A1 ?_
 refine A0 (A4 rfl rfl rfl (A6 rfl (kn rfl) (kn rfl) BM) .nil) ?_
 try refine A1 ?_
 refine AB rfl (fun h=>?_) (fun h=>?_)
 ·have hlt:k<l.length:=by have:=of_decide_eq_true h;omega
  obtain⟨x,hx⟩:∃ x,l[k]?=some x:=⟨_,List.getElem?_eq_getElem hlt⟩
  have hs:=K5 hx hw
  try refine A1 ?_
  refine AG ?_
  refine AK (AX rfl (kn rfl) (kn rfl) (by omega) hx Vl.dats_len sle_24 esz_24 (D7 x)) ?_
  refine AK (AO rfl (kn rfl) agg_27 sz_27) ?_
  refine BB 6 [.is (.int .i64 0),.is (.int .u64 0),.is (.string ⟨#[]⟩),.is (.slice none 0 0),.is (.string ⟨#[]⟩),.is (.slice none 0 0),.is (.slice none 0 0)] rfl rfl rfl rfl zr_27 (fun w D M V=>⟨rfl,fun j x v h1 h2=>BA _ h1 h2 rfl⟩) rfl rfl rfl rfl ?_
  refine B2 rfl rfl rfl (kn rfl) rfl (kn rfl) rfl rfl sz_27 ?_
  refine AD ?_
  try refine A1 ?_
  refine A0 (A8 rfl rfl rfl rfl rfl (A4 rfl rfl rfl (A9 (ds:=[_,_,_,_,_,_,_]) 7 rfl (kn rfl) rfl rfl agg_27 sz_27 rfl) (A4 rfl rfl rfl (CH rfl hfc (kn rfl) (hc x (List.mem_of_getElem? hx)) ⟨kn rfl,trivial⟩) (A4 rfl rfl rfl (DL rfl (kn rfl)) .nil)))) ?_
  try refine A1 ?_
  refine AB rfl (fun h1=>?_) (fun h1=>?_)
  ·have e:l.all p=false:=by
    rw[hs,show p x=false by simpa using h1]
    rfl
   try refine A1 ?_
   refine A0 (AC rfl rfl rfl rfl rfl .nil) ?_
   try refine A1 ?_
   exact A7 rfl rfl (.tmp (kn rfl) (.nil)) (AT e.symm) rfl
  try refine A1 ?_
  refine A0 (A4 rfl rfl rfl (A6 rfl (kn rfl) (kn rfl) (AW (by first | omega | (dsimp only;omega)))) (A8 rfl rfl rfl rfl rfl .nil)) ?_
  try refine A1 ?_
  refine AV ⟨k+1,by omega,?_⟩ (by dsimp only;omega) (fun K=>AM ⟨s_t,s_t,s_t,s_t,trivial⟩ trivial trivial)
  rw[hs,show p x=true by simpa using h1]
  rfl
 have e:l.all p=true:=MH (by have:=of_decide_eq_false h;omega) hw
 try refine A1 ?_
 refine A0 (AC rfl rfl rfl rfl rfl .nil) ?_
 try refine A1 ?_
 exact A7 rfl rfl (.tmp (kn rfl) (.nil)) (AT e.symm) rfl
abbrev kB(z:Int):BL:=[(3,⟨3,[.is (.int .i64 z)]⟩)]
abbrev UR:IV:=.clo (.func 113) [] [.box 3 0]
abbrev YB(z:Int)(b:Bool)(y:IV)(B1:BL)(R1:RL):Prop:=y=.part (tP b)/\B1=kB z/\R1=[]
theorem YB.tidy{z:Int}{b:Bool}(y:IV)(B1:BL)(R1:RL)(h:YB z b y B1 R1):PV (kB z) [] y B1 R1:=by
 obtain⟨rfl,rfl,rfl⟩:=h
 exact⟨rfl,rfl,rfl,rfl⟩
theorem M5(z:Int)(l:List (Vl×Vl))(hl:l.length<=1000000)(p:Vl×Vl->Bool)(hc:∀ x∈l,EG Try.prog [] 113 [.part (.many (pd x)),.box 3 0] (kB z) [] (YB z (p x))):EG Try.prog [] 112 [.part (.one (.row 14 l.length (l.flatMap pairDats))),UR] (kB z) [] (YB z (l.all p)):=by
 refine EE 18 Try.func112 rfl rfl rfl fun w D bor mb=>?_
 try refine A1 ?_
 refine A0 (AC rfl rfl rfl rfl rfl .nil) ?_
 try refine A1 ?_
 refine A0 (A8 rfl rfl rfl rfl rfl (A4 rfl rfl rfl (AY rfl (kn rfl) sle_25) (A8 rfl rfl rfl rfl rfl .nil))) ?_
 try refine A1 ?_
 refine BN (ι:={ k:Nat // k<=l.length/\l.all p=(l.drop k).all p })
  (fun k=>[(1,UR),(7,.part (.one (.row 14 l.length (l.flatMap pairDats)))),(8,.is (.int .i64 (l.length:Int))),(9,.is (.int .i64 (k.1:Int)))])
  (fun _=>kB z) (fun _=>[]) (fun k=>l.length-k.1) ⟨0,by omega,rfl⟩
  (fun K=>AM ⟨s_t,s_t,s_t,s_t,trivial⟩ ⟨s_b,trivial⟩ trivial) ?_
 rintro⟨k,hk,hw⟩
 dsimp only at hk hw ⊢
 try refine A1 ?_
 refine A0 (A4 rfl rfl rfl (A6 rfl (kn rfl) (kn rfl) BM) .nil) ?_
 try refine A1 ?_
 refine AB rfl (fun h=>?_) (fun h=>?_)
 ·have hlt:k<l.length:=by have:=of_decide_eq_true h;omega
  obtain⟨x,hx⟩:∃ x,l[k]?=some x:=⟨_,List.getElem?_eq_getElem hlt⟩
  have hs:=K5 hx hw
  try refine A1 ?_
  refine AG ?_
  refine AK (AX rfl (kn rfl) (kn rfl) (by omega) hx BT sle_25 esz_25 (CK x)) ?_
  refine AK (AO rfl (kn rfl) agg_101 sz_101) ?_
  refine BB 6 [.is (.int .i64 0),.is (.int .u64 0),.is (.string ⟨#[]⟩),.is (.slice none 0 0),.is (.string ⟨#[]⟩),.is (.slice none 0 0),.is (.slice none 0 0),.is (.int .i64 0),.is (.int .u64 0),.is (.string ⟨#[]⟩),.is (.slice none 0 0),.is (.string ⟨#[]⟩),.is (.slice none 0 0),.is (.slice none 0 0)] rfl rfl rfl rfl zr_101 (fun w D M V=>⟨rfl,fun j x v h1 h2=>BA _ h1 h2 rfl⟩) rfl rfl rfl rfl ?_
  refine B2 rfl rfl rfl (kn rfl) rfl (kn rfl) rfl rfl sz_101 ?_
  refine AD ?_
  try refine A1 ?_
  refine AG ?_
  refine BE ?_
  refine AK (A9 (ds:=[_,_,_,_,_,_,_,_,_,_,_,_,_,_]) 14 rfl (kn rfl) rfl rfl agg_101 sz_101 rfl) ?_
  refine HU (zs:=[_]) rfl rfl rfl rfl (by kernel_rfl) (hc x (List.mem_of_getElem? hx)) ⟨rfl,trivial⟩ trivial (kn rfl) ⟨(kn rfl),trivial⟩ rfl (YB.tidy) ?_
  rintro _ _ _ ⟨rfl,rfl,rfl⟩
  refine AK (DL rfl (kn rfl)) ?_
  refine AD ?_
  try refine A1 ?_
  refine AB rfl (fun h1=>?_) (fun h1=>?_)
  ·have e:l.all p=false:=by
    rw[hs,show p x=false by simpa using h1]
    rfl
   try refine A1 ?_
   refine A0 (AC rfl rfl rfl rfl rfl .nil) ?_
   try refine A1 ?_
   exact HX (kB z) ([]) rfl (.tmp (kn rfl) (.nil)) (Imp.refl _) ⟨s_b,trivial⟩ trivial (⟨by rw[e];rfl,rfl,rfl⟩)
  try refine A1 ?_
  refine A0 (A4 rfl rfl rfl (A6 rfl (kn rfl) (kn rfl) (AW (by first | omega | (dsimp only;omega)))) (A8 rfl rfl rfl rfl rfl .nil)) ?_
  try refine A1 ?_
  refine AV ⟨k+1,by omega,?_⟩ (by dsimp only;omega) (fun K=>AM ⟨s_t,s_t,s_t,s_t,trivial⟩ ⟨s_b,trivial⟩ trivial)
  rw[hs,show p x=true by simpa using h1]
  rfl
 have e:l.all p=true:=MH (by have:=of_decide_eq_false h;omega) hw
 try refine A1 ?_
 refine A0 (AC rfl rfl rfl rfl rfl .nil) ?_
 try refine A1 ?_
 exact HX (kB z) ([]) rfl (.tmp (kn rfl) (.nil)) (Imp.refl _) ⟨s_b,trivial⟩ trivial (⟨by rw[e];rfl,rfl,rfl⟩)
theorem LM{α:Type}{c:α->α->Int}{l:List α}{k:Nat}(hk:l.length<=k+1)(h:B9 c l=B9 c (l.drop k)):B9 c l=true:=by
 rw[h]
 have h1:(l.drop k).length<=1:=by rw[List.length_drop];omega
 revert h1
 cases l.drop k with
 | nil=>exact fun _=>rfl
 | cons x m=>cases m with
  | nil=>exact fun _=>rfl
  | cons y m=>intro h;simp at h
theorem JN{α:Type}{c:α->α->Int}{l:List α}{k:Nat}{x y:α}(hx:l[k]?=some x)(hy:l[k+1]?=some y)(h:B9 c l=B9 c (l.drop k)):B9 c l=(decide (c x y<0)&&B9 c (l.drop (k+1))):=by
 rw[h,BQ hx,BQ hy,B9]
theorem J0(f:FuncId)(hfc:AZ Try.prog f=true)(l:List (Int×Vl))(hl:l.length<=1000000)(c:Int×Vl->Int×Vl->Int)(hc:∀ x∈l,∀ y∈l,EF Try.prog [] f [.many (fd x),.many (fd y)] (.part (iP (c x y)))):EF Try.prog [] 104 [.one (.row 8 l.length (l.flatMap fieldDats)),fP f] (.part (tP (B9 c l))):=by
 refine AF 24 Try.func104 rfl rfl rfl fun w D=>?_
 try refine A1 ?_
 refine A0 (AC rfl rfl rfl rfl rfl .nil) ?_
 try refine A1 ?_
 refine A0 (AC rfl rfl rfl rfl rfl .nil) ?_
 try refine A1 ?_
 refine BN (ι:={ k:Nat // k<=l.length/\B9 c l=B9 c (l.drop k) })
  (fun k=>[(0,.part (.one (.row 8 l.length (l.flatMap fieldDats)))),(1,.part (fP f)),(5,.is (.int .i64 ((k.1+1:Nat):Int)))])
  (fun _=>[]) (fun _=>[]) (fun k=>l.length-k.1) ⟨0,by omega,rfl⟩
  (fun K=>AM ⟨s_t,s_t,s_t,trivial⟩ trivial trivial) ?_
 rintro⟨k,hk,hw⟩
 dsimp only at hk hw ⊢
 try refine A1 ?_
 refine A0 (A8 rfl rfl rfl rfl rfl (A8 rfl rfl rfl rfl rfl (A4 rfl rfl rfl (AY rfl (kn rfl) sle_23) (A4 rfl rfl rfl (A6 rfl (kn rfl) (kn rfl) BM) .nil)))) ?_
 try refine A1 ?_
 refine AB rfl (fun h=>?_) (fun h=>?_)
 ·have hlt:k+1<l.length:=by have:=of_decide_eq_true h;omega
  obtain⟨x,hx⟩:∃ x,l[k]?=some x:=⟨_,List.getElem?_eq_getElem (by omega)⟩
  obtain⟨y,hy⟩:∃ y,l[k+1]?=some y:=⟨_,List.getElem?_eq_getElem hlt⟩
  have hx':l[(((k+1:Nat):Int)-1).toNat]?=some x:=by rw[show(((k+1:Nat):Int)-1).toNat=k by omega];exact hx
  have hs:=JN hx hy hw
  try refine A1 ?_
  refine DV DX (by kernel_rfl) (A8 rfl rfl rfl rfl rfl (A8 rfl rfl rfl rfl rfl (A8 rfl rfl rfl rfl rfl (A4 rfl rfl rfl (A6 rfl (kn rfl) (kn rfl) (E1 (by first | omega | (dsimp only;omega)))) (A4 rfl rfl rfl (AX rfl (kn rfl) (kn rfl) (by omega) hx' BY sle_23 esz_23 (CM x)) (A4 rfl rfl rfl (AO rfl (kn rfl) agg_97 sz_97) (A8 rfl rfl rfl rfl rfl (A8 rfl rfl rfl rfl rfl (A4 rfl rfl rfl (AX rfl (kn rfl) (kn rfl) (by omega) hy BY sle_23 esz_23 (CM y)) (A4 rfl rfl rfl (AO rfl (kn rfl) agg_97 sz_97) (A4 rfl rfl rfl (CH rfl hfc (kn rfl) (hc x (List.mem_of_getElem? hx) y (List.mem_of_getElem? hy)) ⟨kn rfl,kn rfl,trivial⟩) (A4 rfl rfl rfl (A6 rfl (kn rfl) (kn rfl) CW) .nil)))))))))))) ?_
  try refine A1 ?_
  refine AB rfl (fun h1=>?_) (fun h1=>?_)
  ·have e:B9 c l=false:=by
    have h2:=of_decide_eq_true h1
    rw[hs,decide_eq_false (by omega)]
    rfl
   try refine A1 ?_
   refine A0 (AC rfl rfl rfl rfl rfl .nil) ?_
   try refine A1 ?_
   exact A7 rfl rfl (.tmp (kn rfl) (.nil)) (AT e.symm) rfl
  try refine A1 ?_
  refine A0 (A8 rfl rfl rfl rfl rfl (A4 rfl rfl rfl (A6 rfl (kn rfl) (kn rfl) (AW (by first | omega | (dsimp only;omega)))) (AC rfl rfl rfl rfl rfl .nil))) ?_
  try refine A1 ?_
  refine AV ⟨k+1,by omega,?_⟩ (by dsimp only;omega) (fun K=>AM ⟨s_t,s_t,s_t,trivial⟩ trivial trivial)
  have h2:=of_decide_eq_false h1
  rw[hs,decide_eq_true (by omega)]
  rfl
 have e:B9 c l=true:=LM (by have:=of_decide_eq_false h;omega) hw
 try refine A1 ?_
 refine A0 (AC rfl rfl rfl rfl rfl .nil) ?_
 try refine A1 ?_
 exact A7 rfl rfl (.tmp (kn rfl) (.nil)) (AT e.symm) rfl
theorem JS(f:FuncId)(hfc:AZ Try.prog f=true)(l:List (Vl×Vl))(hl:l.length<=1000000)(c:Vl×Vl->Vl×Vl->Int)(hc:∀ x∈l,∀ y∈l,EF Try.prog [] f [.many (pd x),.many (pd y)] (.part (iP (c x y)))):EF Try.prog [] 115 [.one (.row 14 l.length (l.flatMap pairDats)),fP f] (.part (tP (B9 c l))):=by
 refine AF 24 Try.func115 rfl rfl rfl fun w D=>?_
 try refine A1 ?_
 refine A0 (AC rfl rfl rfl rfl rfl .nil) ?_
 try refine A1 ?_
 refine A0 (AC rfl rfl rfl rfl rfl .nil) ?_
 try refine A1 ?_
 refine BN (ι:={ k:Nat // k<=l.length/\B9 c l=B9 c (l.drop k) })
  (fun k=>[(0,.part (.one (.row 14 l.length (l.flatMap pairDats)))),(1,.part (fP f)),(5,.is (.int .i64 ((k.1+1:Nat):Int)))])
  (fun _=>[]) (fun _=>[]) (fun k=>l.length-k.1) ⟨0,by omega,rfl⟩
  (fun K=>AM ⟨s_t,s_t,s_t,trivial⟩ trivial trivial) ?_
 rintro⟨k,hk,hw⟩
 dsimp only at hk hw ⊢
 try refine A1 ?_
 refine A0 (A8 rfl rfl rfl rfl rfl (A8 rfl rfl rfl rfl rfl (A4 rfl rfl rfl (AY rfl (kn rfl) sle_25) (A4 rfl rfl rfl (A6 rfl (kn rfl) (kn rfl) BM) .nil)))) ?_
 try refine A1 ?_
 refine AB rfl (fun h=>?_) (fun h=>?_)
 ·have hlt:k+1<l.length:=by have:=of_decide_eq_true h;omega
  obtain⟨x,hx⟩:∃ x,l[k]?=some x:=⟨_,List.getElem?_eq_getElem (by omega)⟩
  obtain⟨y,hy⟩:∃ y,l[k+1]?=some y:=⟨_,List.getElem?_eq_getElem hlt⟩
  have hx':l[(((k+1:Nat):Int)-1).toNat]?=some x:=by rw[show(((k+1:Nat):Int)-1).toNat=k by omega];exact hx
  have hs:=JN hx hy hw
  try refine A1 ?_
  refine DV DX (by kernel_rfl) (A8 rfl rfl rfl rfl rfl (A8 rfl rfl rfl rfl rfl (A8 rfl rfl rfl rfl rfl (A4 rfl rfl rfl (A6 rfl (kn rfl) (kn rfl) (E1 (by first | omega | (dsimp only;omega)))) (A4 rfl rfl rfl (AX rfl (kn rfl) (kn rfl) (by omega) hx' BT sle_25 esz_25 (CK x)) (A4 rfl rfl rfl (AO rfl (kn rfl) agg_101 sz_101) (A8 rfl rfl rfl rfl rfl (A8 rfl rfl rfl rfl rfl (A4 rfl rfl rfl (AX rfl (kn rfl) (kn rfl) (by omega) hy BT sle_25 esz_25 (CK y)) (A4 rfl rfl rfl (AO rfl (kn rfl) agg_101 sz_101) (A4 rfl rfl rfl (CH rfl hfc (kn rfl) (hc x (List.mem_of_getElem? hx) y (List.mem_of_getElem? hy)) ⟨kn rfl,kn rfl,trivial⟩) (A4 rfl rfl rfl (A6 rfl (kn rfl) (kn rfl) CW) .nil)))))))))))) ?_
  try refine A1 ?_
  refine AB rfl (fun h1=>?_) (fun h1=>?_)
  ·have e:B9 c l=false:=by
    have h2:=of_decide_eq_true h1
    rw[hs,decide_eq_false (by omega)]
    rfl
   try refine A1 ?_
   refine A0 (AC rfl rfl rfl rfl rfl .nil) ?_
   try refine A1 ?_
   exact A7 rfl rfl (.tmp (kn rfl) (.nil)) (AT e.symm) rfl
  try refine A1 ?_
  refine A0 (A8 rfl rfl rfl rfl rfl (A4 rfl rfl rfl (A6 rfl (kn rfl) (kn rfl) (AW (by first | omega | (dsimp only;omega)))) (AC rfl rfl rfl rfl rfl .nil))) ?_
  try refine A1 ?_
  refine AV ⟨k+1,by omega,?_⟩ (by dsimp only;omega) (fun K=>AM ⟨s_t,s_t,s_t,trivial⟩ trivial trivial)
  have h2:=of_decide_eq_false h1
  rw[hs,decide_eq_true (by omega)]
  rfl
 have e:B9 c l=true:=LM (by have:=of_decide_eq_false h;omega) hw
 try refine A1 ?_
 refine A0 (AC rfl rfl rfl rfl rfl .nil) ?_
 try refine A1 ?_
 exact A7 rfl rfl (.tmp (kn rfl) (.nil)) (AT e.symm) rfl
end Go.Proofs.Ytecfdcdkkgmkpaa
