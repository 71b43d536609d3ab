/- Part 23. Conditions: as each theorem says. -/
import Derived.Test.YtojdpgeeajaojaaGreatET22
import Derived.Test.YtojdpgeeajaojaaGreatProg
set_option maxRecDepth 100000
namespace Go.Proofs.YtojdpgeeajaojaaGreat
open Go.RowKit
theorem AZ{a b:Bool}(h:a=b):Imp (J3 [.one (.cell (.bool a))]) (.part (tP b)):=Imp.of_eq (by rw[h];rfl)
theorem JG(n:Int):EF Tryz.prog [] 100 [iP n] (.part (tP (S1 n))):=by
 refine AG 9 Tryz.func100 rfl rfl rfl fun w D=>?_
 try refine A3 ?_
 refine A2 (AC rfl rfl rfl rfl rfl .nil) ?_
 try refine A3 ?_
 refine A2 (A9 rfl rfl rfl rfl rfl (A4 rfl rfl rfl (A6 rfl (kn rfl) (kn rfl) CM) (A9 rfl rfl rfl rfl rfl (Walk.gd _ rfl rfl rfl (fun h=>AN rfl (kn rfl)) (Walk.gd _ rfl rfl rfl (fun h=>A6 rfl (A0 rfl h) (kn rfl) L9) (A4 rfl rfl rfl (AO rfl (kn rfl) (fun hb=>A0 rfl hb)) (AC rfl rfl rfl rfl rfl .nil))))))) ?_
 try refine A3 ?_
 exact A8 rfl rfl (.tmp (kn rfl) (.nil)) (AZ rfl) rfl
set_option maxHeartbeats 2000000 in
theorem TJ(v:Vl):EF Tryz.prog [] 86 [.many (vd v)] (.part (tP (FR v))):=by
 refine AG 52 Tryz.func86 rfl rfl rfl fun w D=>?_
 try refine A3 ?_
 refine AI ?_
 refine B9 1 rfl rfl rfl rfl (kn rfl) rfl rfl rfl rfl ?_
 refine BX ?_
 refine AM ?_
 try refine A3 ?_
 refine A2 (A4 rfl rfl rfl (A1 rfl (kn rfl) off_27_0) (A4 rfl rfl rfl (A5 rfl (kn rfl) rfl rfl one_3) .nil)) ?_
 try refine A3 ?_
 try refine A3 ?_
 refine A2 (A4 rfl rfl rfl (A6 rfl (kn rfl) (kn rfl) AP) (AC rfl rfl rfl rfl rfl .nil)) ?_
 try refine A3 ?_
 refine AB rfl (fun q1=>?_) (fun q1=>?_)
 ·have h1:=of_decide_eq_true q1
  try refine A3 ?_
  refine AI ?_
  refine AQ (A1 rfl (kn rfl) off_27_1) ?_
  refine C5 rfl rfl rfl (kn rfl) rfl (kn rfl) rfl rfl sz_22 rfl ?_
  refine AM ?_
  try refine A3 ?_
  refine A2 (A4 rfl rfl rfl (A1 rfl (kn rfl) off_27_1) (A4 rfl rfl rfl (A5 rfl (kn rfl) rfl rfl one_22) (A4 rfl rfl rfl (A6 rfl (kn rfl) (kn rfl) AP) (A9 rfl rfl rfl rfl rfl (Walk.gd _ rfl rfl rfl (fun h=>A1 rfl (kn rfl) off_27_2) (Walk.gd _ rfl rfl rfl (fun h=>A5 rfl (A0 rfl h) rfl rfl one_9) (Walk.gd _ rfl rfl rfl (fun h=>A6 rfl (A0 rfl h) (kn rfl) (CS (b:=[]))) (A4 rfl rfl rfl (AO rfl (kn rfl) (fun hb=>A0 rfl hb)) (A9 rfl rfl rfl rfl rfl (Walk.gd _ rfl rfl rfl (fun h=>A1 rfl (kn rfl) off_27_3) (Walk.gd _ rfl rfl rfl (fun h=>A5 rfl (A0 rfl h) rfl rfl one_23) (Walk.gd _ rfl rfl rfl (fun h=>AR rfl (A0 rfl h) sle_23) (Walk.gd _ rfl rfl rfl (fun h=>A6 rfl (A0 rfl h) (kn rfl) AP) (A4 rfl rfl rfl (AO rfl (kn rfl) (fun hb=>A0 rfl hb)) (A9 rfl rfl rfl rfl rfl (Walk.gd _ rfl rfl rfl (fun h=>A1 rfl (kn rfl) off_27_4) (Walk.gd _ rfl rfl rfl (fun h=>A5 rfl (A0 rfl h) rfl rfl one_9) (Walk.gd _ rfl rfl rfl (fun h=>A6 rfl (A0 rfl h) (kn rfl) (CS (b:=[]))) (A4 rfl rfl rfl (AO rfl (kn rfl) (fun hb=>A0 rfl hb)) (A9 rfl rfl rfl rfl rfl (Walk.gd _ rfl rfl rfl (fun h=>A1 rfl (kn rfl) off_27_5) (Walk.gd _ rfl rfl rfl (fun h=>A5 rfl (A0 rfl h) rfl rfl one_24) (Walk.gd _ rfl rfl rfl (fun h=>AR rfl (A0 rfl h) sle_24) (Walk.gd _ rfl rfl rfl (fun h=>A6 rfl (A0 rfl h) (kn rfl) AP) (A4 rfl rfl rfl (AO rfl (kn rfl) (fun hb=>A0 rfl hb)) (A9 rfl rfl rfl rfl rfl (Walk.gd _ rfl rfl rfl (fun h=>A1 rfl (kn rfl) off_27_6) (Walk.gd _ rfl rfl rfl (fun h=>A5 rfl (A0 rfl h) rfl rfl one_25) (Walk.gd _ rfl rfl rfl (fun h=>AR rfl (A0 rfl h) sle_25) (Walk.gd _ rfl rfl rfl (fun h=>A6 rfl (A0 rfl h) (kn rfl) AP) (A4 rfl rfl rfl (AO rfl (kn rfl) (fun hb=>A0 rfl hb)) (AC rfl rfl rfl rfl rfl .nil)))))))))))))))))))))))))))))))) ?_
  try refine A3 ?_
  exact A8 rfl rfl (.tmp (kn rfl) (.nil)) (AZ (by simp[FR,h1,Bool.and_assoc])) rfl
 have n1:=of_decide_eq_false q1
 try refine A3 ?_
 refine A2 (A4 rfl rfl rfl (A6 rfl (kn rfl) (kn rfl) AP) (AC rfl rfl rfl rfl rfl .nil)) ?_
 try refine A3 ?_
 refine AB rfl (fun q2=>?_) (fun q2=>?_)
 ·have h2:=of_decide_eq_true q2
  try refine A3 ?_
  refine AI ?_
  refine AQ (A1 rfl (kn rfl) off_27_2) ?_
  refine C5 rfl rfl rfl (kn rfl) rfl (kn rfl) rfl rfl sz_9 rfl ?_
  refine AM ?_
  try refine A3 ?_
  refine A2 (A4 rfl rfl rfl (A1 rfl (kn rfl) off_27_1) (A4 rfl rfl rfl (A5 rfl (kn rfl) rfl rfl one_22) (A4 rfl rfl rfl (A6 rfl (kn rfl) (kn rfl) AP) (A9 rfl rfl rfl rfl rfl (Walk.gd _ rfl rfl rfl (fun h=>A1 rfl (kn rfl) off_27_2) (Walk.gd _ rfl rfl rfl (fun h=>A5 rfl (A0 rfl h) rfl rfl one_9) (Walk.gd _ rfl rfl rfl (fun h=>A6 rfl (A0 rfl h) (kn rfl) (CS (a:=[]) (b:=[]))) (A4 rfl rfl rfl (AO rfl (kn rfl) (fun hb=>A0 rfl hb)) (A9 rfl rfl rfl rfl rfl (Walk.gd _ rfl rfl rfl (fun h=>A1 rfl (kn rfl) off_27_3) (Walk.gd _ rfl rfl rfl (fun h=>A5 rfl (A0 rfl h) rfl rfl one_23) (Walk.gd _ rfl rfl rfl (fun h=>AR rfl (A0 rfl h) sle_23) (Walk.gd _ rfl rfl rfl (fun h=>A6 rfl (A0 rfl h) (kn rfl) AP) (A4 rfl rfl rfl (AO rfl (kn rfl) (fun hb=>A0 rfl hb)) (A9 rfl rfl rfl rfl rfl (Walk.gd _ rfl rfl rfl (fun h=>A1 rfl (kn rfl) off_27_4) (Walk.gd _ rfl rfl rfl (fun h=>A5 rfl (A0 rfl h) rfl rfl one_9) (Walk.gd _ rfl rfl rfl (fun h=>A6 rfl (A0 rfl h) (kn rfl) (CS (b:=[]))) (A4 rfl rfl rfl (AO rfl (kn rfl) (fun hb=>A0 rfl hb)) (A9 rfl rfl rfl rfl rfl (Walk.gd _ rfl rfl rfl (fun h=>A1 rfl (kn rfl) off_27_5) (Walk.gd _ rfl rfl rfl (fun h=>A5 rfl (A0 rfl h) rfl rfl one_24) (Walk.gd _ rfl rfl rfl (fun h=>AR rfl (A0 rfl h) sle_24) (Walk.gd _ rfl rfl rfl (fun h=>A6 rfl (A0 rfl h) (kn rfl) AP) (A4 rfl rfl rfl (AO rfl (kn rfl) (fun hb=>A0 rfl hb)) (A9 rfl rfl rfl rfl rfl (Walk.gd _ rfl rfl rfl (fun h=>A1 rfl (kn rfl) off_27_6) (Walk.gd _ rfl rfl rfl (fun h=>A5 rfl (A0 rfl h) rfl rfl one_25) (Walk.gd _ rfl rfl rfl (fun h=>AR rfl (A0 rfl h) sle_25) (Walk.gd _ rfl rfl rfl (fun h=>A6 rfl (A0 rfl h) (kn rfl) AP) (A4 rfl rfl rfl (AO rfl (kn rfl) (fun hb=>A0 rfl hb)) (AC rfl rfl rfl rfl rfl .nil)))))))))))))))))))))))))))))))) ?_
  try refine A3 ?_
  exact A8 rfl rfl (.tmp (kn rfl) (.nil)) (AZ (by simp[FR,h2,Bool.and_assoc])) rfl
 have n2:=of_decide_eq_false q2
 try refine A3 ?_
 refine A2 (A4 rfl rfl rfl (A6 rfl (kn rfl) (kn rfl) AP) (AC rfl rfl rfl rfl rfl .nil)) ?_
 try refine A3 ?_
 refine AB rfl (fun q3=>?_) (fun q3=>?_)
 ·have h3:=of_decide_eq_true q3
  try refine A3 ?_
  refine AI ?_
  refine AQ (A1 rfl (kn rfl) off_27_3) ?_
  refine C5 rfl rfl rfl (kn rfl) rfl (kn rfl) rfl rfl sz_23 rfl ?_
  refine AQ (A1 rfl (kn rfl) off_27_4) ?_
  refine C5 rfl rfl rfl (kn rfl) rfl (kn rfl) rfl rfl sz_9 rfl ?_
  refine AM ?_
  try refine A3 ?_
  refine A2 (A4 rfl rfl rfl (A1 rfl (kn rfl) off_27_1) (A4 rfl rfl rfl (A5 rfl (kn rfl) rfl rfl one_22) (A4 rfl rfl rfl (A6 rfl (kn rfl) (kn rfl) AP) (A9 rfl rfl rfl rfl rfl (Walk.gd _ rfl rfl rfl (fun h=>A1 rfl (kn rfl) off_27_2) (Walk.gd _ rfl rfl rfl (fun h=>A5 rfl (A0 rfl h) rfl rfl one_9) (Walk.gd _ rfl rfl rfl (fun h=>A6 rfl (A0 rfl h) (kn rfl) (CS (b:=[]))) (A4 rfl rfl rfl (AO rfl (kn rfl) (fun hb=>A0 rfl hb)) (A9 rfl rfl rfl rfl rfl (Walk.gd _ rfl rfl rfl (fun h=>A1 rfl (kn rfl) off_27_3) (Walk.gd _ rfl rfl rfl (fun h=>A5 rfl (A0 rfl h) rfl rfl one_23) (Walk.gd _ rfl rfl rfl (fun h=>K1 rfl (A0 rfl h) sle_23) (Walk.gd _ rfl rfl rfl (fun h=>A6 rfl (A0 rfl h) (kn rfl) AP) (A4 rfl rfl rfl (AO rfl (kn rfl) (fun hb=>A0 rfl hb)) (A9 rfl rfl rfl rfl rfl (Walk.gd _ rfl rfl rfl (fun h=>A1 rfl (kn rfl) off_27_4) (Walk.gd _ rfl rfl rfl (fun h=>A5 rfl (A0 rfl h) rfl rfl one_9) (Walk.gd _ rfl rfl rfl (fun h=>A6 rfl (A0 rfl h) (kn rfl) (CS (a:=[]) (b:=[]))) (A4 rfl rfl rfl (AO rfl (kn rfl) (fun hb=>A0 rfl hb)) (A9 rfl rfl rfl rfl rfl (Walk.gd _ rfl rfl rfl (fun h=>A1 rfl (kn rfl) off_27_5) (Walk.gd _ rfl rfl rfl (fun h=>A5 rfl (A0 rfl h) rfl rfl one_24) (Walk.gd _ rfl rfl rfl (fun h=>AR rfl (A0 rfl h) sle_24) (Walk.gd _ rfl rfl rfl (fun h=>A6 rfl (A0 rfl h) (kn rfl) AP) (A4 rfl rfl rfl (AO rfl (kn rfl) (fun hb=>A0 rfl hb)) (A9 rfl rfl rfl rfl rfl (Walk.gd _ rfl rfl rfl (fun h=>A1 rfl (kn rfl) off_27_6) (Walk.gd _ rfl rfl rfl (fun h=>A5 rfl (A0 rfl h) rfl rfl one_25) (Walk.gd _ rfl rfl rfl (fun h=>AR rfl (A0 rfl h) sle_25) (Walk.gd _ rfl rfl rfl (fun h=>A6 rfl (A0 rfl h) (kn rfl) AP) (A4 rfl rfl rfl (AO rfl (kn rfl) (fun hb=>A0 rfl hb)) (AC rfl rfl rfl rfl rfl .nil)))))))))))))))))))))))))))))))) ?_
  try refine A3 ?_
  exact A8 rfl rfl (.tmp (kn rfl) (.nil)) (AZ (by simp[FR,h3,Bool.and_assoc])) rfl
 have n3:=of_decide_eq_false q3
 try refine A3 ?_
 refine A2 (A4 rfl rfl rfl (A6 rfl (kn rfl) (kn rfl) AP) (AC rfl rfl rfl rfl rfl .nil)) ?_
 try refine A3 ?_
 refine AB rfl (fun q4=>?_) (fun q4=>?_)
 ·have h4:=of_decide_eq_true q4
  try refine A3 ?_
  refine AI ?_
  refine AQ (A1 rfl (kn rfl) off_27_5) ?_
  refine C5 rfl rfl rfl (kn rfl) rfl (kn rfl) rfl rfl sz_24 rfl ?_
  refine AM ?_
  try refine A3 ?_
  refine A2 (A4 rfl rfl rfl (A1 rfl (kn rfl) off_27_1) (A4 rfl rfl rfl (A5 rfl (kn rfl) rfl rfl one_22) (A4 rfl rfl rfl (A6 rfl (kn rfl) (kn rfl) AP) (A9 rfl rfl rfl rfl rfl (Walk.gd _ rfl rfl rfl (fun h=>A1 rfl (kn rfl) off_27_2) (Walk.gd _ rfl rfl rfl (fun h=>A5 rfl (A0 rfl h) rfl rfl one_9) (Walk.gd _ rfl rfl rfl (fun h=>A6 rfl (A0 rfl h) (kn rfl) (CS (b:=[]))) (A4 rfl rfl rfl (AO rfl (kn rfl) (fun hb=>A0 rfl hb)) (A9 rfl rfl rfl rfl rfl (Walk.gd _ rfl rfl rfl (fun h=>A1 rfl (kn rfl) off_27_3) (Walk.gd _ rfl rfl rfl (fun h=>A5 rfl (A0 rfl h) rfl rfl one_23) (Walk.gd _ rfl rfl rfl (fun h=>AR rfl (A0 rfl h) sle_23) (Walk.gd _ rfl rfl rfl (fun h=>A6 rfl (A0 rfl h) (kn rfl) AP) (A4 rfl rfl rfl (AO rfl (kn rfl) (fun hb=>A0 rfl hb)) (A9 rfl rfl rfl rfl rfl (Walk.gd _ rfl rfl rfl (fun h=>A1 rfl (kn rfl) off_27_4) (Walk.gd _ rfl rfl rfl (fun h=>A5 rfl (A0 rfl h) rfl rfl one_9) (Walk.gd _ rfl rfl rfl (fun h=>A6 rfl (A0 rfl h) (kn rfl) (CS (b:=[]))) (A4 rfl rfl rfl (AO rfl (kn rfl) (fun hb=>A0 rfl hb)) (A9 rfl rfl rfl rfl rfl (Walk.gd _ rfl rfl rfl (fun h=>A1 rfl (kn rfl) off_27_5) (Walk.gd _ rfl rfl rfl (fun h=>A5 rfl (A0 rfl h) rfl rfl one_24) (Walk.gd _ rfl rfl rfl (fun h=>K1 rfl (A0 rfl h) sle_24) (Walk.gd _ rfl rfl rfl (fun h=>A6 rfl (A0 rfl h) (kn rfl) AP) (A4 rfl rfl rfl (AO rfl (kn rfl) (fun hb=>A0 rfl hb)) (A9 rfl rfl rfl rfl rfl (Walk.gd _ rfl rfl rfl (fun h=>A1 rfl (kn rfl) off_27_6) (Walk.gd _ rfl rfl rfl (fun h=>A5 rfl (A0 rfl h) rfl rfl one_25) (Walk.gd _ rfl rfl rfl (fun h=>AR rfl (A0 rfl h) sle_25) (Walk.gd _ rfl rfl rfl (fun h=>A6 rfl (A0 rfl h) (kn rfl) AP) (A4 rfl rfl rfl (AO rfl (kn rfl) (fun hb=>A0 rfl hb)) (AC rfl rfl rfl rfl rfl .nil)))))))))))))))))))))))))))))))) ?_
  try refine A3 ?_
  exact A8 rfl rfl (.tmp (kn rfl) (.nil)) (AZ (by simp[FR,h4,Bool.and_assoc])) rfl
 have n4:=of_decide_eq_false q4
 try refine A3 ?_
 refine A2 (A4 rfl rfl rfl (A6 rfl (kn rfl) (kn rfl) AP) (AC rfl rfl rfl rfl rfl .nil)) ?_
 try refine A3 ?_
 refine AB rfl (fun q5=>?_) (fun q5=>?_)
 ·have h5:=of_decide_eq_true q5
  try refine A3 ?_
  refine AI ?_
  refine AQ (A1 rfl (kn rfl) off_27_6) ?_
  refine C5 rfl rfl rfl (kn rfl) rfl (kn rfl) rfl rfl sz_25 rfl ?_
  refine AM ?_
  try refine A3 ?_
  refine A2 (A4 rfl rfl rfl (A1 rfl (kn rfl) off_27_1) (A4 rfl rfl rfl (A5 rfl (kn rfl) rfl rfl one_22) (A4 rfl rfl rfl (A6 rfl (kn rfl) (kn rfl) AP) (A9 rfl rfl rfl rfl rfl (Walk.gd _ rfl rfl rfl (fun h=>A1 rfl (kn rfl) off_27_2) (Walk.gd _ rfl rfl rfl (fun h=>A5 rfl (A0 rfl h) rfl rfl one_9) (Walk.gd _ rfl rfl rfl (fun h=>A6 rfl (A0 rfl h) (kn rfl) (CS (b:=[]))) (A4 rfl rfl rfl (AO rfl (kn rfl) (fun hb=>A0 rfl hb)) (A9 rfl rfl rfl rfl rfl (Walk.gd _ rfl rfl rfl (fun h=>A1 rfl (kn rfl) off_27_3) (Walk.gd _ rfl rfl rfl (fun h=>A5 rfl (A0 rfl h) rfl rfl one_23) (Walk.gd _ rfl rfl rfl (fun h=>AR rfl (A0 rfl h) sle_23) (Walk.gd _ rfl rfl rfl (fun h=>A6 rfl (A0 rfl h) (kn rfl) AP) (A4 rfl rfl rfl (AO rfl (kn rfl) (fun hb=>A0 rfl hb)) (A9 rfl rfl rfl rfl rfl (Walk.gd _ rfl rfl rfl (fun h=>A1 rfl (kn rfl) off_27_4) (Walk.gd _ rfl rfl rfl (fun h=>A5 rfl (A0 rfl h) rfl rfl one_9) (Walk.gd _ rfl rfl rfl (fun h=>A6 rfl (A0 rfl h) (kn rfl) (CS (b:=[]))) (A4 rfl rfl rfl (AO rfl (kn rfl) (fun hb=>A0 rfl hb)) (A9 rfl rfl rfl rfl rfl (Walk.gd _ rfl rfl rfl (fun h=>A1 rfl (kn rfl) off_27_5) (Walk.gd _ rfl rfl rfl (fun h=>A5 rfl (A0 rfl h) rfl rfl one_24) (Walk.gd _ rfl rfl rfl (fun h=>AR rfl (A0 rfl h) sle_24) (Walk.gd _ rfl rfl rfl (fun h=>A6 rfl (A0 rfl h) (kn rfl) AP) (A4 rfl rfl rfl (AO rfl (kn rfl) (fun hb=>A0 rfl hb)) (A9 rfl rfl rfl rfl rfl (Walk.gd _ rfl rfl rfl (fun h=>A1 rfl (kn rfl) off_27_6) (Walk.gd _ rfl rfl rfl (fun h=>A5 rfl (A0 rfl h) rfl rfl one_25) (Walk.gd _ rfl rfl rfl (fun h=>K1 rfl (A0 rfl h) sle_25) (Walk.gd _ rfl rfl rfl (fun h=>A6 rfl (A0 rfl h) (kn rfl) AP) (A4 rfl rfl rfl (AO rfl (kn rfl) (fun hb=>A0 rfl hb)) (AC rfl rfl rfl rfl rfl .nil)))))))))))))))))))))))))))))))) ?_
  try refine A3 ?_
  exact A8 rfl rfl (.tmp (kn rfl) (.nil)) (AZ (by simp[FR,h5,Bool.and_assoc])) rfl
 have n5:=of_decide_eq_false q5
 try refine A3 ?_
 refine A2 (A4 rfl rfl rfl (A1 rfl (kn rfl) off_27_1) (A4 rfl rfl rfl (A5 rfl (kn rfl) rfl rfl one_22) (A4 rfl rfl rfl (A6 rfl (kn rfl) (kn rfl) AP) (A9 rfl rfl rfl rfl rfl (Walk.gd _ rfl rfl rfl (fun h=>A1 rfl (kn rfl) off_27_2) (Walk.gd _ rfl rfl rfl (fun h=>A5 rfl (A0 rfl h) rfl rfl one_9) (Walk.gd _ rfl rfl rfl (fun h=>A6 rfl (A0 rfl h) (kn rfl) (CS (b:=[]))) (A4 rfl rfl rfl (AO rfl (kn rfl) (fun hb=>A0 rfl hb)) (A9 rfl rfl rfl rfl rfl (Walk.gd _ rfl rfl rfl (fun h=>A1 rfl (kn rfl) off_27_3) (Walk.gd _ rfl rfl rfl (fun h=>A5 rfl (A0 rfl h) rfl rfl one_23) (Walk.gd _ rfl rfl rfl (fun h=>AR rfl (A0 rfl h) sle_23) (Walk.gd _ rfl rfl rfl (fun h=>A6 rfl (A0 rfl h) (kn rfl) AP) (A4 rfl rfl rfl (AO rfl (kn rfl) (fun hb=>A0 rfl hb)) (A9 rfl rfl rfl rfl rfl (Walk.gd _ rfl rfl rfl (fun h=>A1 rfl (kn rfl) off_27_4) (Walk.gd _ rfl rfl rfl (fun h=>A5 rfl (A0 rfl h) rfl rfl one_9) (Walk.gd _ rfl rfl rfl (fun h=>A6 rfl (A0 rfl h) (kn rfl) (CS (b:=[]))) (A4 rfl rfl rfl (AO rfl (kn rfl) (fun hb=>A0 rfl hb)) (A9 rfl rfl rfl rfl rfl (Walk.gd _ rfl rfl rfl (fun h=>A1 rfl (kn rfl) off_27_5) (Walk.gd _ rfl rfl rfl (fun h=>A5 rfl (A0 rfl h) rfl rfl one_24) (Walk.gd _ rfl rfl rfl (fun h=>AR rfl (A0 rfl h) sle_24) (Walk.gd _ rfl rfl rfl (fun h=>A6 rfl (A0 rfl h) (kn rfl) AP) (A4 rfl rfl rfl (AO rfl (kn rfl) (fun hb=>A0 rfl hb)) (A9 rfl rfl rfl rfl rfl (Walk.gd _ rfl rfl rfl (fun h=>A1 rfl (kn rfl) off_27_6) (Walk.gd _ rfl rfl rfl (fun h=>A5 rfl (A0 rfl h) rfl rfl one_25) (Walk.gd _ rfl rfl rfl (fun h=>AR rfl (A0 rfl h) sle_25) (Walk.gd _ rfl rfl rfl (fun h=>A6 rfl (A0 rfl h) (kn rfl) AP) (A4 rfl rfl rfl (AO rfl (kn rfl) (fun hb=>A0 rfl hb)) (AC rfl rfl rfl rfl rfl .nil)))))))))))))))))))))))))))))))) ?_
 try refine A3 ?_
 exact A8 rfl rfl (.tmp (kn rfl) (.nil)) (AZ (by simp[FR,n1,n2,n3,n4,n5,Bool.and_assoc])) rfl
theorem ME{α:Type}{p:α->Bool}{l:List α}{k:Nat}(hk:l.length<=k)(h:l.all p=(l.drop k).all p):l.all p=true:=by
 rw[h,List.drop_eq_nil_of_le hk]
 rfl
theorem KP{α:Type}{p:α->Bool}{l:List α}{k:Nat}{x:α}(hx:l[k]?=some x)(h:l.all p=(l.drop k).all p):l.all p=(p x&&(l.drop (k+1)).all p):=by
 rw[h,BC hx,List.all_cons]
theorem KV(f:FuncId)(hfc:B4 Tryz.prog f=true)(l:List (Int×Vl))(hl:l.length<=1000000)(p:Int×Vl->Bool)(hc:∀ x∈l,EF Tryz.prog [] f [.many (fd x)] (.part (tP (p x)))):EF Tryz.prog [] 87 [.one (.row 8 l.length (l.flatMap fieldDats)),fP f] (.part (tP (l.all p))):=by
 refine AG 18 Tryz.func87 rfl rfl rfl fun w D=>?_
 try refine A3 ?_
 refine A2 (AC rfl rfl rfl rfl rfl .nil) ?_
 try refine A3 ?_
 refine A2 (A9 rfl rfl rfl rfl rfl (A4 rfl rfl rfl (AR rfl (kn rfl) sle_23) (A9 rfl rfl rfl rfl rfl .nil))) ?_
 try refine A3 ?_
 refine AX (ι:={ k:Nat // k<=l.length/\l.all p=(l.drop k).all p })
  (fun k=>[(1,.part (fP f)),(7,.part (.one (.row 8 l.length (l.flatMap fieldDats)))),(8,.is (.int .i64 (l.length:Int))),(9,.is (.int .i64 (k.1:Int)))])
  (fun _=>[]) (fun _=>[]) (fun k=>l.length-k.1) ⟨0,by omega,rfl⟩
  (fun K=>AL ⟨s_t,s_t,s_t,s_t,trivial⟩ trivial trivial) ?_
 rintro⟨k,hk,hw⟩
 dsimp only at hk hw ⊢
 try refine A3 ?_
 refine A2 (A4 rfl rfl rfl (A6 rfl (kn rfl) (kn rfl) AY) .nil) ?_
 try refine A3 ?_
 refine AB rfl (fun h=>?_) (fun h=>?_)
 ·have hlt:k<l.length:=by have:=of_decide_eq_true h;omega
  obtain⟨x,hx⟩:∃ x,l[k]?=some x:=⟨_,List.getElem?_eq_getElem hlt⟩
  have hs:=KP hx hw
  try refine A3 ?_
  refine AI ?_
  refine AQ (AJ rfl (kn rfl) (kn rfl) (by omega) hx B3 sle_23 esz_23 (B6 x)) ?_
  refine AQ (AH rfl (kn rfl) agg_79 sz_79) ?_
  refine AW 6 [.is (.int .i64 0),.is (.int .i64 0),.is (.int .u64 0),.is (.string ⟨#[]⟩),.is (.slice none 0 0),.is (.string ⟨#[]⟩),.is (.slice none 0 0),.is (.slice none 0 0)] rfl rfl rfl rfl zr_79 (fun w D M V=>⟨rfl,fun j x v h1 h2=>AV _ h1 h2 rfl⟩) rfl rfl rfl rfl ?_
  refine AT rfl rfl rfl (kn rfl) rfl (kn rfl) rfl rfl sz_79 ?_
  refine AM ?_
  try refine A3 ?_
  refine A2 (A9 rfl rfl rfl rfl rfl (A4 rfl rfl rfl (A7 (ds:=[_,_,_,_,_,_,_,_]) 8 rfl (kn rfl) rfl rfl agg_79 sz_79 rfl) (A4 rfl rfl rfl (BY rfl hfc (kn rfl) (hc x (List.mem_of_getElem? hx)) ⟨kn rfl,trivial⟩) (A4 rfl rfl rfl (BZ rfl (kn rfl)) .nil)))) ?_
  try refine A3 ?_
  refine AB rfl (fun h1=>?_) (fun h1=>?_)
  ·have e:l.all p=false:=by
    rw[hs,show p x=false by simpa using h1]
    rfl
   try refine A3 ?_
   refine A2 (AC rfl rfl rfl rfl rfl .nil) ?_
   try refine A3 ?_
   exact A8 rfl rfl (.tmp (kn rfl) (.nil)) (AZ e.symm) rfl
  try refine A3 ?_
  refine A2 (A4 rfl rfl rfl (A6 rfl (kn rfl) (kn rfl) (AK (by first | omega | (dsimp only;omega)))) (A9 rfl rfl rfl rfl rfl .nil)) ?_
  try refine A3 ?_
  refine AS ⟨k+1,by omega,?_⟩ (by dsimp only;omega) (fun K=>AL ⟨s_t,s_t,s_t,s_t,trivial⟩ trivial trivial)
  rw[hs,show p x=true by simpa using h1]
  rfl
 have e:l.all p=true:=ME (by have:=of_decide_eq_false h;omega) hw
 try refine A3 ?_
 refine A2 (AC rfl rfl rfl rfl rfl .nil) ?_
 try refine A3 ?_
 exact A8 rfl rfl (.tmp (kn rfl) (.nil)) (AZ e.symm) rfl
theorem NR(f:FuncId)(hfc:B4 Tryz.prog f=true)(l:List (Vl))(hl:l.length<=1000000)(p:Vl->Bool)(hc:∀ x∈l,EF Tryz.prog [] f [.many (vd x)] (.part (tP (p x)))):EF Tryz.prog [] 91 [.one (.row 7 l.length (l.flatMap Vl.dats)),fP f] (.part (tP (l.all p))):=by
 refine AG 18 Tryz.func91 rfl rfl rfl fun w D=>?_
 try refine A3 ?_
 refine A2 (AC rfl rfl rfl rfl rfl .nil) ?_
 try refine A3 ?_
 refine A2 (A9 rfl rfl rfl rfl rfl (A4 rfl rfl rfl (AR rfl (kn rfl) sle_24) (A9 rfl rfl rfl rfl rfl .nil))) ?_
 try refine A3 ?_
 refine AX (ι:={ k:Nat // k<=l.length/\l.all p=(l.drop k).all p })
  (fun k=>[(1,.part (fP f)),(7,.part (.one (.row 7 l.length (l.flatMap Vl.dats)))),(8,.is (.int .i64 (l.length:Int))),(9,.is (.int .i64 (k.1:Int)))])
  (fun _=>[]) (fun _=>[]) (fun k=>l.length-k.1) ⟨0,by omega,rfl⟩
  (fun K=>AL ⟨s_t,s_t,s_t,s_t,trivial⟩ trivial trivial) ?_
 rintro⟨k,hk,hw⟩
 dsimp only at hk hw ⊢
 try refine A3 ?_
 refine A2 (A4 rfl rfl rfl (A6 rfl (kn rfl) (kn rfl) AY) .nil) ?_
 try refine A3 ?_
 refine AB rfl (fun h=>?_) (fun h=>?_)
 ·have hlt:k<l.length:=by have:=of_decide_eq_true h;omega
  obtain⟨x,hx⟩:∃ x,l[k]?=some x:=⟨_,List.getElem?_eq_getElem hlt⟩
  have hs:=KP hx hw
  try refine A3 ?_
  refine AI ?_
  refine AQ (AJ rfl (kn rfl) (kn rfl) (by omega) hx Vl.dats_len sle_24 esz_24 (CB x)) ?_
  refine AQ (AH rfl (kn rfl) agg_27 sz_27) ?_
  refine AW 6 [.is (.int .i64 0),.is (.int .u64 0),.is (.string ⟨#[]⟩),.is (.slice none 0 0),.is (.string ⟨#[]⟩),.is (.slice none 0 0),.is (.slice none 0 0)] rfl rfl rfl rfl zr_27 (fun w D M V=>⟨rfl,fun j x v h1 h2=>AV _ h1 h2 rfl⟩) rfl rfl rfl rfl ?_
  refine AT rfl rfl rfl (kn rfl) rfl (kn rfl) rfl rfl sz_27 ?_
  refine AM ?_
  try refine A3 ?_
  refine A2 (A9 rfl rfl rfl rfl rfl (A4 rfl rfl rfl (A7 (ds:=[_,_,_,_,_,_,_]) 7 rfl (kn rfl) rfl rfl agg_27 sz_27 rfl) (A4 rfl rfl rfl (BY rfl hfc (kn rfl) (hc x (List.mem_of_getElem? hx)) ⟨kn rfl,trivial⟩) (A4 rfl rfl rfl (BZ rfl (kn rfl)) .nil)))) ?_
  try refine A3 ?_
  refine AB rfl (fun h1=>?_) (fun h1=>?_)
  ·have e:l.all p=false:=by
    rw[hs,show p x=false by simpa using h1]
    rfl
   try refine A3 ?_
   refine A2 (AC rfl rfl rfl rfl rfl .nil) ?_
   try refine A3 ?_
   exact A8 rfl rfl (.tmp (kn rfl) (.nil)) (AZ e.symm) rfl
  try refine A3 ?_
  refine A2 (A4 rfl rfl rfl (A6 rfl (kn rfl) (kn rfl) (AK (by first | omega | (dsimp only;omega)))) (A9 rfl rfl rfl rfl rfl .nil)) ?_
  try refine A3 ?_
  refine AS ⟨k+1,by omega,?_⟩ (by dsimp only;omega) (fun K=>AL ⟨s_t,s_t,s_t,s_t,trivial⟩ trivial trivial)
  rw[hs,show p x=true by simpa using h1]
  rfl
 have e:l.all p=true:=ME (by have:=of_decide_eq_false h;omega) hw
 try refine A3 ?_
 refine A2 (AC rfl rfl rfl rfl rfl .nil) ?_
 try refine A3 ?_
 exact A8 rfl rfl (.tmp (kn rfl) (.nil)) (AZ e.symm) rfl
abbrev kB(z:Int):BL:=[(3,⟨3,[.is (.int .i64 z)]⟩)]
abbrev UX:IV:=.clo (.func 102) [] [.box 3 0]
abbrev YB(z:Int)(b:Bool)(y:IV)(B1:BL)(R1:RL):Prop:=y=.part (tP b)/\B1=kB z/\R1=[]
theorem YB.tidy{z:Int}{b:Bool}(y:IV)(B1:BL)(R1:RL)(h:YB z b y B1 R1):TS (kB z) [] y B1 R1:=by
 obtain⟨rfl,rfl,rfl⟩:=h
 exact⟨rfl,rfl,rfl,rfl⟩
theorem M4(z:Int)(l:List (Vl×Vl))(hl:l.length<=1000000)(p:Vl×Vl->Bool)(hc:∀ x∈l,EG Tryz.prog [] 102 [.part (.many (pd x)),.box 3 0] (kB z) [] (YB z (p x))):EG Tryz.prog [] 101 [.part (.one (.row 14 l.length (l.flatMap pairDats))),UX] (kB z) [] (YB z (l.all p)):=by
 refine HS 18 Tryz.func101 rfl rfl rfl fun w D bor mb=>?_
 try refine A3 ?_
 refine A2 (AC rfl rfl rfl rfl rfl .nil) ?_
 try refine A3 ?_
 refine A2 (A9 rfl rfl rfl rfl rfl (A4 rfl rfl rfl (AR rfl (kn rfl) sle_25) (A9 rfl rfl rfl rfl rfl .nil))) ?_
 try refine A3 ?_
 refine AX (ι:={ k:Nat // k<=l.length/\l.all p=(l.drop k).all p })
  (fun k=>[(1,UX),(7,.part (.one (.row 14 l.length (l.flatMap pairDats)))),(8,.is (.int .i64 (l.length:Int))),(9,.is (.int .i64 (k.1:Int)))])
  (fun _=>kB z) (fun _=>[]) (fun k=>l.length-k.1) ⟨0,by omega,rfl⟩
  (fun K=>AL ⟨s_t,s_t,s_t,s_t,trivial⟩ ⟨s_b,trivial⟩ trivial) ?_
 rintro⟨k,hk,hw⟩
 dsimp only at hk hw ⊢
 try refine A3 ?_
 refine A2 (A4 rfl rfl rfl (A6 rfl (kn rfl) (kn rfl) AY) .nil) ?_
 try refine A3 ?_
 refine AB rfl (fun h=>?_) (fun h=>?_)
 ·have hlt:k<l.length:=by have:=of_decide_eq_true h;omega
  obtain⟨x,hx⟩:∃ x,l[k]?=some x:=⟨_,List.getElem?_eq_getElem hlt⟩
  have hs:=KP hx hw
  try refine A3 ?_
  refine AI ?_
  refine AQ (AJ rfl (kn rfl) (kn rfl) (by omega) hx B5 sle_25 esz_25 (BA x)) ?_
  refine AQ (AH rfl (kn rfl) agg_83 sz_83) ?_
  refine AW 6 [.is (.int .i64 0),.is (.int .u64 0),.is (.string ⟨#[]⟩),.is (.slice none 0 0),.is (.string ⟨#[]⟩),.is (.slice none 0 0),.is (.slice none 0 0),.is (.int .i64 0),.is (.int .u64 0),.is (.string ⟨#[]⟩),.is (.slice none 0 0),.is (.string ⟨#[]⟩),.is (.slice none 0 0),.is (.slice none 0 0)] rfl rfl rfl rfl zr_83 (fun w D M V=>⟨rfl,fun j x v h1 h2=>AV _ h1 h2 rfl⟩) rfl rfl rfl rfl ?_
  refine AT rfl rfl rfl (kn rfl) rfl (kn rfl) rfl rfl sz_83 ?_
  refine AM ?_
  try refine A3 ?_
  refine AI ?_
  refine D9 ?_
  refine AQ (A7 (ds:=[_,_,_,_,_,_,_,_,_,_,_,_,_,_]) 14 rfl (kn rfl) rfl rfl agg_83 sz_83 rfl) ?_
  refine FY (zs:=[_]) rfl rfl rfl rfl (by kernel_rfl) (hc x (List.mem_of_getElem? hx)) ⟨rfl,trivial⟩ trivial (kn rfl) ⟨(kn rfl),trivial⟩ rfl (YB.tidy) ?_
  rintro _ _ _ ⟨rfl,rfl,rfl⟩
  refine AQ (BZ rfl (kn rfl)) ?_
  refine AM ?_
  try refine A3 ?_
  refine AB rfl (fun h1=>?_) (fun h1=>?_)
  ·have e:l.all p=false:=by
    rw[hs,show p x=false by simpa using h1]
    rfl
   try refine A3 ?_
   refine A2 (AC rfl rfl rfl rfl rfl .nil) ?_
   try refine A3 ?_
   exact IC (kB z) ([]) rfl (.tmp (kn rfl) (.nil)) (Imp.refl _) ⟨s_b,trivial⟩ trivial (⟨by rw[e];rfl,rfl,rfl⟩)
  try refine A3 ?_
  refine A2 (A4 rfl rfl rfl (A6 rfl (kn rfl) (kn rfl) (AK (by first | omega | (dsimp only;omega)))) (A9 rfl rfl rfl rfl rfl .nil)) ?_
  try refine A3 ?_
  refine AS ⟨k+1,by omega,?_⟩ (by dsimp only;omega) (fun K=>AL ⟨s_t,s_t,s_t,s_t,trivial⟩ ⟨s_b,trivial⟩ trivial)
  rw[hs,show p x=true by simpa using h1]
  rfl
 have e:l.all p=true:=ME (by have:=of_decide_eq_false h;omega) hw
 try refine A3 ?_
 refine A2 (AC rfl rfl rfl rfl rfl .nil) ?_
 try refine A3 ?_
 exact IC (kB z) ([]) rfl (.tmp (kn rfl) (.nil)) (Imp.refl _) ⟨s_b,trivial⟩ trivial (⟨by rw[e];rfl,rfl,rfl⟩)
theorem LN{α:Type}{c:α->α->Int}{l:List α}{k:Nat}(hk:l.length<=k+1)(h:BH c l=BH c (l.drop k)):BH c l=true:=by
 rw[h]
 have h1:(l.drop k).length<=1:=by rw[List.length_drop];omega
 revert h1
 cases l.drop k with
 | nil=>exact fun _=>rfl
 | cons x m=>cases m with
  | nil=>exact fun _=>rfl
  | cons y m=>intro h;simp at h
theorem K7{α:Type}{c:α->α->Int}{l:List α}{k:Nat}{x y:α}(hx:l[k]?=some x)(hy:l[k+1]?=some y)(h:BH c l=BH c (l.drop k)):BH c l=(decide (c x y<0)&&BH c (l.drop (k+1))):=by
 rw[h,BC hx,BC hy,BH]
theorem J8(f:FuncId)(hfc:B4 Tryz.prog f=true)(l:List (Int×Vl))(hl:l.length<=1000000)(c:Int×Vl->Int×Vl->Int)(hc:∀ x∈l,∀ y∈l,EF Tryz.prog [] f [.many (fd x),.many (fd y)] (.part (iP (c x y)))):EF Tryz.prog [] 89 [.one (.row 8 l.length (l.flatMap fieldDats)),fP f] (.part (tP (BH c l))):=by
 refine AG 24 Tryz.func89 rfl rfl rfl fun w D=>?_
 try refine A3 ?_
 refine A2 (AC rfl rfl rfl rfl rfl .nil) ?_
 try refine A3 ?_
 refine A2 (AC rfl rfl rfl rfl rfl .nil) ?_
 try refine A3 ?_
 refine AX (ι:={ k:Nat // k<=l.length/\BH c l=BH c (l.drop k) })
  (fun k=>[(0,.part (.one (.row 8 l.length (l.flatMap fieldDats)))),(1,.part (fP f)),(5,.is (.int .i64 ((k.1+1:Nat):Int)))])
  (fun _=>[]) (fun _=>[]) (fun k=>l.length-k.1) ⟨0,by omega,rfl⟩
  (fun K=>AL ⟨s_t,s_t,s_t,trivial⟩ trivial trivial) ?_
 rintro⟨k,hk,hw⟩
 dsimp only at hk hw ⊢
 try refine A3 ?_
 refine A2 (A9 rfl rfl rfl rfl rfl (A9 rfl rfl rfl rfl rfl (A4 rfl rfl rfl (AR rfl (kn rfl) sle_23) (A4 rfl rfl rfl (A6 rfl (kn rfl) (kn rfl) AY) .nil)))) ?_
 try refine A3 ?_
 refine AB rfl (fun h=>?_) (fun h=>?_)
 ·have hlt:k+1<l.length:=by have:=of_decide_eq_true h;omega
  obtain⟨x,hx⟩:∃ x,l[k]?=some x:=⟨_,List.getElem?_eq_getElem (by omega)⟩
  obtain⟨y,hy⟩:∃ y,l[k+1]?=some y:=⟨_,List.getElem?_eq_getElem hlt⟩
  have hx':l[(((k+1:Nat):Int)-1).toNat]?=some x:=by rw[show(((k+1:Nat):Int)-1).toNat=k by omega];exact hx
  have hs:=K7 hx hy hw
  try refine A3 ?_
  refine BD BF (by kernel_rfl) (A9 rfl rfl rfl rfl rfl (A9 rfl rfl rfl rfl rfl (A9 rfl rfl rfl rfl rfl (A4 rfl rfl rfl (A6 rfl (kn rfl) (kn rfl) (CV (by first | omega | (dsimp only;omega)))) (A4 rfl rfl rfl (AJ rfl (kn rfl) (kn rfl) (by omega) hx' B3 sle_23 esz_23 (B6 x)) (A4 rfl rfl rfl (AH rfl (kn rfl) agg_79 sz_79) (A9 rfl rfl rfl rfl rfl (A9 rfl rfl rfl rfl rfl (A4 rfl rfl rfl (AJ rfl (kn rfl) (kn rfl) (by omega) hy B3 sle_23 esz_23 (B6 y)) (A4 rfl rfl rfl (AH rfl (kn rfl) agg_79 sz_79) (A4 rfl rfl rfl (BY rfl hfc (kn rfl) (hc x (List.mem_of_getElem? hx) y (List.mem_of_getElem? hy)) ⟨kn rfl,kn rfl,trivial⟩) (A4 rfl rfl rfl (A6 rfl (kn rfl) (kn rfl) CM) .nil)))))))))))) ?_
  try refine A3 ?_
  refine AB rfl (fun h1=>?_) (fun h1=>?_)
  ·have e:BH c l=false:=by
    have h2:=of_decide_eq_true h1
    rw[hs,decide_eq_false (by omega)]
    rfl
   try refine A3 ?_
   refine A2 (AC rfl rfl rfl rfl rfl .nil) ?_
   try refine A3 ?_
   exact A8 rfl rfl (.tmp (kn rfl) (.nil)) (AZ e.symm) rfl
  try refine A3 ?_
  refine A2 (A9 rfl rfl rfl rfl rfl (A4 rfl rfl rfl (A6 rfl (kn rfl) (kn rfl) (AK (by first | omega | (dsimp only;omega)))) (AC rfl rfl rfl rfl rfl .nil))) ?_
  try refine A3 ?_
  refine AS ⟨k+1,by omega,?_⟩ (by dsimp only;omega) (fun K=>AL ⟨s_t,s_t,s_t,trivial⟩ trivial trivial)
  have h2:=of_decide_eq_false h1
  rw[hs,decide_eq_true (by omega)]
  rfl
 have e:BH c l=true:=LN (by have:=of_decide_eq_false h;omega) hw
 try refine A3 ?_
 refine A2 (AC rfl rfl rfl rfl rfl .nil) ?_
 try refine A3 ?_
 exact A8 rfl rfl (.tmp (kn rfl) (.nil)) (AZ e.symm) rfl
theorem KQ(f:FuncId)(hfc:B4 Tryz.prog f=true)(l:List (Vl×Vl))(hl:l.length<=1000000)(c:Vl×Vl->Vl×Vl->Int)(hc:∀ x∈l,∀ y∈l,EF Tryz.prog [] f [.many (pd x),.many (pd y)] (.part (iP (c x y)))):EF Tryz.prog [] 104 [.one (.row 14 l.length (l.flatMap pairDats)),fP f] (.part (tP (BH c l))):=by
 refine AG 24 Tryz.func104 rfl rfl rfl fun w D=>?_
 try refine A3 ?_
 refine A2 (AC rfl rfl rfl rfl rfl .nil) ?_
 try refine A3 ?_
 refine A2 (AC rfl rfl rfl rfl rfl .nil) ?_
 try refine A3 ?_
 refine AX (ι:={ k:Nat // k<=l.length/\BH c l=BH c (l.drop k) })
  (fun k=>[(0,.part (.one (.row 14 l.length (l.flatMap pairDats)))),(1,.part (fP f)),(5,.is (.int .i64 ((k.1+1:Nat):Int)))])
  (fun _=>[]) (fun _=>[]) (fun k=>l.length-k.1) ⟨0,by omega,rfl⟩
  (fun K=>AL ⟨s_t,s_t,s_t,trivial⟩ trivial trivial) ?_
 rintro⟨k,hk,hw⟩
 dsimp only at hk hw ⊢
 try refine A3 ?_
 refine A2 (A9 rfl rfl rfl rfl rfl (A9 rfl rfl rfl rfl rfl (A4 rfl rfl rfl (AR rfl (kn rfl) sle_25) (A4 rfl rfl rfl (A6 rfl (kn rfl) (kn rfl) AY) .nil)))) ?_
 try refine A3 ?_
 refine AB rfl (fun h=>?_) (fun h=>?_)
 ·have hlt:k+1<l.length:=by have:=of_decide_eq_true h;omega
  obtain⟨x,hx⟩:∃ x,l[k]?=some x:=⟨_,List.getElem?_eq_getElem (by omega)⟩
  obtain⟨y,hy⟩:∃ y,l[k+1]?=some y:=⟨_,List.getElem?_eq_getElem hlt⟩
  have hx':l[(((k+1:Nat):Int)-1).toNat]?=some x:=by rw[show(((k+1:Nat):Int)-1).toNat=k by omega];exact hx
  have hs:=K7 hx hy hw
  try refine A3 ?_
  refine BD BF (by kernel_rfl) (A9 rfl rfl rfl rfl rfl (A9 rfl rfl rfl rfl rfl (A9 rfl rfl rfl rfl rfl (A4 rfl rfl rfl (A6 rfl (kn rfl) (kn rfl) (CV (by first | omega | (dsimp only;omega)))) (A4 rfl rfl rfl (AJ rfl (kn rfl) (kn rfl) (by omega) hx' B5 sle_25 esz_25 (BA x)) (A4 rfl rfl rfl (AH rfl (kn rfl) agg_83 sz_83) (A9 rfl rfl rfl rfl rfl (A9 rfl rfl rfl rfl rfl (A4 rfl rfl rfl (AJ rfl (kn rfl) (kn rfl) (by omega) hy B5 sle_25 esz_25 (BA y)) (A4 rfl rfl rfl (AH rfl (kn rfl) agg_83 sz_83) (A4 rfl rfl rfl (BY rfl hfc (kn rfl) (hc x (List.mem_of_getElem? hx) y (List.mem_of_getElem? hy)) ⟨kn rfl,kn rfl,trivial⟩) (A4 rfl rfl rfl (A6 rfl (kn rfl) (kn rfl) CM) .nil)))))))))))) ?_
  try refine A3 ?_
  refine AB rfl (fun h1=>?_) (fun h1=>?_)
  ·have e:BH c l=false:=by
    have h2:=of_decide_eq_true h1
    rw[hs,decide_eq_false (by omega)]
    rfl
   try refine A3 ?_
   refine A2 (AC rfl rfl rfl rfl rfl .nil) ?_
   try refine A3 ?_
   exact A8 rfl rfl (.tmp (kn rfl) (.nil)) (AZ e.symm) rfl
  try refine A3 ?_
  refine A2 (A9 rfl rfl rfl rfl rfl (A4 rfl rfl rfl (A6 rfl (kn rfl) (kn rfl) (AK (by first | omega | (dsimp only;omega)))) (AC rfl rfl rfl rfl rfl .nil))) ?_
  try refine A3 ?_
  refine AS ⟨k+1,by omega,?_⟩ (by dsimp only;omega) (fun K=>AL ⟨s_t,s_t,s_t,trivial⟩ trivial trivial)
  have h2:=of_decide_eq_false h1
  rw[hs,decide_eq_true (by omega)]
  rfl
 have e:BH c l=true:=LN (by have:=of_decide_eq_false h;omega) hw
 try refine A3 ?_
 refine A2 (AC rfl rfl rfl rfl rfl .nil) ?_
 try refine A3 ?_
 exact A8 rfl rfl (.tmp (kn rfl) (.nil)) (AZ e.symm) rfl
end Go.Proofs.YtojdpgeeajaojaaGreat
