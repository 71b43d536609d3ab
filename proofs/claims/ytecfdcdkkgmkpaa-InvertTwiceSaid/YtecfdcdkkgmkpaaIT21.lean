/- Part 21. Conditions: as each theorem says. -/
import Derived.Test.YtecfdcdkkgmkpaaIT20
import Derived.Test.YtecfdcdkkgmkpaaProg
set_option maxRecDepth 100000
namespace Go.Proofs.Ytecfdcdkkgmkpaa
open Go.RowKit
theorem QR{cs:List Value}(h:∀ c∈cs,c.oneCell'=true):(cs.map Dat.cell).all Dat.isOne=true:=by
 rw[List.all_map,List.all_eq_true]
 exact h
theorem LT(n:Nat)(hn:n<=1000000)(cs:List Value)(h1:∀ c∈cs,c.oneCell'=true)(hl:cs.length=n*22):EO Try.prog [] 91 [.one (.row 22 n (cs.map .cell))] 61 22 n cs:=by
 refine KI 8 Try.func91 rfl rfl rfl fun w D=>?_
 try refine A1 ?_
 refine A0 (AC rfl rfl rfl rfl rfl .nil) ?_
 try refine A1 ?_
 refine AI ?_
 refine BM ?_
 refine NY rfl rfl rfl rfl (kn rfl) sl_28 (fun h0=>?_) ?_
 refine AH ?_
 try refine A1 ?_
 ·subst h0
  obtain rfl:cs=[]:=List.eq_nil_of_length_eq_zero (by omega)
  refine TD ?_
  try refine A1 ?_
  refine A0 (AC rfl rfl rfl rfl rfl .nil) ?_
  try refine A1 ?_
  refine ES 2 100 61 22 rfl rfl rfl ?_
  exact D1 rfl rfl rfl rfl (rfl) rfl
 refine OJ ?_
 try refine A1 ?_
 refine AI ?_
 refine RB 100 rfl rfl rfl rfl sl_28 ap_28 rfl rfl ?_
 refine BM ?_
 refine EL rfl rfl rfl rfl (kn rfl) rfl (kn rfl) sl_28 ap_28 rfl (QR h1) (by first | omega | (dsimp only;omega)) (by first | omega | (dsimp only;omega)) ?_
 refine C7 ?_
 refine AH ?_
 try refine A1 ?_
 refine DM (Nat.zero_add n) (List.nil_append _) ?_
 exact D1 rfl rfl rfl rfl (rfl) rfl
theorem LF(n:Nat)(hn:n<=1000000)(ds:List Dat)(h1:ds.all Dat.isOne=true):EOD Try.prog [] 91 [.one (.row 22 n ds)] 61 22 n ds:=.of h1 fun cs c1 c2=>LT n hn cs c1 c2
theorem N2(n:Nat)(hn:n<=1000000)(cs:List Value)(h1:∀ c∈cs,c.oneCell'=true)(hl:cs.length=n*30):EO Try.prog [] 55 [.one (.row 30 n (cs.map .cell))] 76 30 n cs:=by
 refine KI 8 Try.func55 rfl rfl rfl fun w D=>?_
 try refine A1 ?_
 refine A0 (AC rfl rfl rfl rfl rfl .nil) ?_
 try refine A1 ?_
 refine AI ?_
 refine BM ?_
 refine NY rfl rfl rfl rfl (kn rfl) sl_29 (fun h0=>?_) ?_
 refine AH ?_
 try refine A1 ?_
 ·subst h0
  obtain rfl:cs=[]:=List.eq_nil_of_length_eq_zero (by omega)
  refine TD ?_
  try refine A1 ?_
  refine A0 (AC rfl rfl rfl rfl rfl .nil) ?_
  try refine A1 ?_
  refine ES 2 100 76 30 rfl rfl rfl ?_
  exact D1 rfl rfl rfl rfl (rfl) rfl
 refine OJ ?_
 try refine A1 ?_
 refine AI ?_
 refine RB 100 rfl rfl rfl rfl sl_29 ap_29 rfl rfl ?_
 refine BM ?_
 refine EL rfl rfl rfl rfl (kn rfl) rfl (kn rfl) sl_29 ap_29 rfl (QR h1) (by first | omega | (dsimp only;omega)) (by first | omega | (dsimp only;omega)) ?_
 refine C7 ?_
 refine AH ?_
 try refine A1 ?_
 refine DM (Nat.zero_add n) (List.nil_append _) ?_
 exact D1 rfl rfl rfl rfl (rfl) rfl
theorem M3(n:Nat)(hn:n<=1000000)(ds:List Dat)(h1:ds.all Dat.isOne=true):EOD Try.prog [] 55 [.one (.row 30 n ds)] 76 30 n ds:=.of h1 fun cs c1 c2=>N2 n hn cs c1 c2
theorem PV(n:Nat)(hn:n<=1000000)(cs:List Value)(h1:∀ c∈cs,c.oneCell'=true)(hl:cs.length=n*28):EO Try.prog [] 92 [.one (.row 28 n (cs.map .cell))] 65 28 n cs:=by
 refine KI 8 Try.func92 rfl rfl rfl fun w D=>?_
 try refine A1 ?_
 refine A0 (AC rfl rfl rfl rfl rfl .nil) ?_
 try refine A1 ?_
 refine AI ?_
 refine BM ?_
 refine NY rfl rfl rfl rfl (kn rfl) sl_30 (fun h0=>?_) ?_
 refine AH ?_
 try refine A1 ?_
 ·subst h0
  obtain rfl:cs=[]:=List.eq_nil_of_length_eq_zero (by omega)
  refine TD ?_
  try refine A1 ?_
  refine A0 (AC rfl rfl rfl rfl rfl .nil) ?_
  try refine A1 ?_
  refine ES 2 100 65 28 rfl rfl rfl ?_
  exact D1 rfl rfl rfl rfl (rfl) rfl
 refine OJ ?_
 try refine A1 ?_
 refine AI ?_
 refine RB 100 rfl rfl rfl rfl sl_30 ap_30 rfl rfl ?_
 refine BM ?_
 refine EL rfl rfl rfl rfl (kn rfl) rfl (kn rfl) sl_30 ap_30 rfl (QR h1) (by first | omega | (dsimp only;omega)) (by first | omega | (dsimp only;omega)) ?_
 refine C7 ?_
 refine AH ?_
 try refine A1 ?_
 refine DM (Nat.zero_add n) (List.nil_append _) ?_
 exact D1 rfl rfl rfl rfl (rfl) rfl
theorem NM(n:Nat)(hn:n<=1000000)(ds:List Dat)(h1:ds.all Dat.isOne=true):EOD Try.prog [] 92 [.one (.row 28 n ds)] 65 28 n ds:=.of h1 fun cs c1 c2=>PV n hn cs c1 c2
set_option maxHeartbeats 1000000 in
theorem TU(s:Stp)(hs:C6 s=true):EF Try.prog [] 53 [.many (esd s)] (.part (.many (esd s))):=by
 have hc:=(DS hs).2
 refine AF 25 Try.func53 rfl rfl rfl fun w D=>?_
 try refine A1 ?_
 refine AI ?_
 refine BS 1 rfl rfl rfl rfl (kn rfl) rfl rfl rfl rfl ?_
 refine BD 2 [.is (.int .i64 0),.is (.int .i64 0),.is (.int .i64 0),.is (.int .u64 0),.is (.string ⟨#[]⟩),.is (.slice none 0 0),.is (.string ⟨#[]⟩),.is (.slice none 0 0),.is (.slice none 0 0),.is (.int .i64 0),.is (.int .i64 0),.is (.int .u64 0),.is (.string ⟨#[]⟩),.is (.slice none 0 0),.is (.string ⟨#[]⟩),.is (.slice none 0 0),.is (.slice none 0 0),.is (.int .i64 0),.is (.int .u64 0),.is (.string ⟨#[]⟩),.is (.slice none 0 0),.is (.string ⟨#[]⟩),.is (.slice none 0 0),.is (.slice none 0 0),.is (.slice none 0 0),.is (.bool false),.is (.string ⟨#[]⟩),.is (.string ⟨#[]⟩),.is (.slice none 0 0),.is (.slice none 0 0)] rfl rfl rfl rfl zr_76 (fun w D M V=>⟨rfl,fun j x v h1 h2=>BC _ h1 h2 rfl⟩) rfl rfl rfl rfl ?_
 refine AH ?_
 try refine A1 ?_
 refine A0 (A3 rfl rfl rfl (A4 rfl (kn rfl) off_76_0) (A3 rfl rfl rfl (A5 rfl (kn rfl) rfl rfl one_3) (A3 rfl rfl rfl (A9 rfl (kn rfl) (kn rfl) AL) (A8 rfl rfl rfl rfl rfl (Walk.gd _ rfl rfl rfl (fun h=>A4 rfl (kn rfl) off_76_3) (Walk.gd _ rfl rfl rfl (fun h=>A4 rfl (A2 rfl h) off_32_0) (Walk.gd _ rfl rfl rfl (fun h=>A5 rfl (A2 rfl h) rfl rfl one_3) (Walk.gd _ rfl rfl rfl (fun h=>A9 rfl (A2 rfl h) (kn rfl) AL) (A3 rfl rfl rfl (AP rfl (kn rfl) (fun hb=>A2 rfl hb)) (AC rfl rfl rfl rfl rfl .nil)))))))))) ?_
 try refine A1 ?_
 refine AE rfl (fun h=>?_) (fun h=>?_)
 ·exfalso
  simp only[Bool.and_eq_true,decide_eq_true_eq]at h
  omega
 try refine A1 ?_
 refine A0 (A3 rfl rfl rfl (A4 rfl (kn rfl) off_76_0) (A3 rfl rfl rfl (A5 rfl (kn rfl) rfl rfl one_3) (A3 rfl rfl rfl (A9 rfl (kn rfl) (kn rfl) AL) (A8 rfl rfl rfl rfl rfl (Walk.gd _ rfl rfl rfl (fun h=>A4 rfl (kn rfl) off_76_1) (Walk.gd _ rfl rfl rfl (fun h=>A5 rfl (A2 rfl h) rfl rfl one_3) (Walk.gd _ rfl rfl rfl (fun h=>A9 rfl (A2 rfl h) (kn rfl) BJ) (A3 rfl rfl rfl (AP rfl (kn rfl) (fun hb=>A2 rfl hb)) (AC rfl rfl rfl rfl rfl .nil))))))))) ?_
 try refine A1 ?_
 refine AE rfl (fun h=>?_) (fun h=>?_)
 ·exfalso
  simp only[Bool.and_eq_true,decide_eq_true_eq]at h
  omega
 try refine A1 ?_
 refine AI ?_
 refine AK (AB (ds:=[_,_,_,_,_,_,_,_,_,_,_,_,_,_,_,_,_,_,_,_,_,_,_,_,_,_,_,_,_,_]) 30 rfl (kn rfl) rfl rfl agg_76 sz_76 rfl) ?_
 refine B6 rfl rfl rfl (kn rfl) rfl (kn rfl) rfl rfl sz_76 ?_
 refine AH ?_
 try refine A1 ?_
 exact A7 rfl rfl (.cell rfl rfl rfl agg_76 sz_76 rfl (.nil)) (Imp.of_eq rfl) rfl
abbrev sR(l:List Stp):Rw:=⟨76,30,l.length,l.flatMap BF,false⟩
abbrev sK(c:Int):Stp:=((1,c,DR),EJ)
abbrev YK(l:List Stp)(y:IV)(B1:BL)(R1:RL):Prop:=y=.own 1000/\B1=[]/\R1=[(1000,sR l)]
theorem YK.tidy{l m:List Stp}(y:IV)(B1:BL)(R1:RL)(h:YK l y B1 R1):QP [] [(1000,sR m)] y B1 R1:=by
 obtain⟨rfl,rfl,rfl⟩:=h
 exact⟨rfl,rfl,rfl,rfl⟩
theorem IP(l:List Stp):(l.flatMap BF).all Dat.isOne=true:=by
 rw[List.all_eq_true]
 intro d hd
 obtain⟨s,_,hs⟩:=List.mem_flatMap.1 hd
 rw[BX]at hs
 exact List.all_eq_true.1 (show(esd s).all Dat.isOne=true from rfl) d hs
theorem MF(l:List Stp):(l.flatMap BF).length=l.length*30:=by
 induction l with
 | nil=>rfl
 | cons s p ih=>rw[List.flatMap_cons,List.length_append,ih,C2,List.length_cons];omega
theorem HW(l:List Stp)(x:Stp):(l++[x]).flatMap BF=l.flatMap BF++esd x:=by rw[List.flatMap_append,<- BX];simp
def JE(l:List Stp):Int:=(l.getLast?.map (·.1.1)).getD 0
theorem FN(l:List Stp)(x:Stp):JE (l++[x])=x.1.1:=by simp[JE]
theorem TH{l:List Stp}(h:(0:Int)<=(l.length:Int)-1):(l.flatMap BF)[(((l.length:Int)-1).toNat*30+0)]?=some (.cell (.int .i64 (JE l))):=by
 rcases List.eq_nil_or_concat l with rfl | ⟨m,x,rfl⟩
 ·simp at h
 ·rw[List.concat_eq_append,FN,HW]
  rw[show(((m++[x]).length:Int)-1).toNat=m.length by simp]
  rw[List.getElem?_append_right (by rw[MF];omega),MF,Nat.add_zero,Nat.sub_self]
  rfl
theorem W4{n:Nat}(h:decide ((0:Int)<=(n:Int)-1)=true):(0:Int)<=(n:Int)-1/\(n:Int)-1<(n:Int):=by
 have:=of_decide_eq_true h
 omega
set_option maxHeartbeats 1000000 in
theorem V4(l:List Stp)(c:Int)(hl:l.length<=200)(hk:JE l≠1):EG Try.prog [] 54 [.own 1000,.is (.int .i64 c)] [] [(1000,sR l)] (YK (l++[sK c])):=by
 refine DK 34 Try.func54 rfl rfl rfl fun w D bor mb=>?_
 try refine A1 ?_
 refine A0 (AC rfl rfl rfl rfl rfl .nil) ?_
 try refine A1 ?_
 refine A0 (A8 rfl rfl rfl rfl rfl (A3 rfl rfl rfl (H3 rfl (kn rfl) rfl sle_29) (A3 rfl rfl rfl (A9 rfl (kn rfl) (kn rfl) (EB (by first | omega | (dsimp only;omega)))) (AC rfl rfl rfl rfl rfl .nil)))) ?_
 try refine A1 ?_
 refine A0 (A8 rfl rfl rfl rfl rfl (A3 rfl rfl rfl (A9 rfl (kn rfl) (kn rfl) D7) (A8 rfl rfl rfl rfl rfl (Walk.gd _ rfl rfl rfl (fun h=>AM rfl (kn rfl)) (Walk.gd _ rfl rfl rfl (fun h=>AM rfl (kn rfl)) (Walk.gd _ rfl rfl rfl (fun h=>KM rfl (A2 rfl h) rfl (A2 rfl h) (W4 h) sle_29 esz_29) (Walk.gd _ rfl rfl rfl (fun h=>B2 rfl (A2 rfl h) off_76_0) (Walk.gd _ rfl rfl rfl (fun h=>CG rfl (A2 rfl h) rfl (TH (of_decide_eq_true h)) one_3) (Walk.gd _ rfl rfl rfl (fun h=>A9 rfl (A2 rfl h) (kn rfl) AL) (A3 rfl rfl rfl (AP rfl (kn rfl) (fun hb=>A2 rfl hb)) .nil)))))))))) ?_
 try refine A1 ?_
 refine AE rfl (fun h=>?_) (fun h=>?_)
 ·exfalso
  simp only[Bool.and_eq_true,decide_eq_true_eq]at h
  exact hk h.2
 try refine A1 ?_
 refine AI ?_
 refine BM ?_
 refine BM ?_
 refine AK (EX (ds:=[_,_,_,_,_,.row 8 0 [],_,.row 7 0 [],.row 14 0 [],_,_,_,_,.row 8 0 [],_,.row 7 0 [],.row 14 0 [],_,_,_,.row 8 0 [],_,.row 7 0 [],.row 14 0 [],.row 22 0 [],_,_,_,.row 30 0 [],.row 28 0 []]) [(0,_),(1,_)] rfl ⟨rfl,(kn rfl),⟨rfl,(kn rfl),trivial⟩⟩ rfl pl_76 zr_76 (fun w D=>.cons (.cell _) (.cons (.cell _) (.cons (.cell _) (.cons (.cell _) (.cons (.cell _) (.cons (.none _ _ _) (.cons (.cell _) (.cons (.none _ _ _) (.cons (.none _ _ _) (.cons (.cell _) (.cons (.cell _) (.cons (.cell _) (.cons (.cell _) (.cons (.none _ _ _) (.cons (.cell _) (.cons (.none _ _ _) (.cons (.none _ _ _) (.cons (.cell _) (.cons (.cell _) (.cons (.cell _) (.cons (.none _ _ _) (.cons (.cell _) (.cons (.none _ _ _) (.cons (.none _ _ _) (.cons (.none _ _ _) (.cons (.cell _) (.cons (.cell _) (.cons (.cell _) (.cons (.none _ _ _) (.cons (.none _ _ _) (.nil _ _))))))))))))))))))))))))))))))) rfl) ?_
 refine AK (DO (ds:=[_,_,_,_,_,_,_,_,_,_,_,_,_,_,_,_,_,_,_,_,_,_,_,_,_,_,_,_,_,_]) [(0,_)] rfl ⟨rfl,(kn rfl),trivial⟩ rfl sl_29 sz_76 zr_76 (fun w D=>.cons (.cell _) (.cons (.cell _) (.cons (.cell _) (.cons (.cell _) (.cons (.cell _) (.cons (.cell _) (.cons (.cell _) (.cons (.cell _) (.cons (.cell _) (.cons (.cell _) (.cons (.cell _) (.cons (.cell _) (.cons (.cell _) (.cons (.cell _) (.cons (.cell _) (.cons (.cell _) (.cons (.cell _) (.cons (.cell _) (.cons (.cell _) (.cons (.cell _) (.cons (.cell _) (.cons (.cell _) (.cons (.cell _) (.cons (.cell _) (.cons (.cell _) (.cons (.cell _) (.cons (.cell _) (.cons (.cell _) (.cons (.cell _) (.cons (.cell _) (.nil _ _))))))))))))))))))))))))))))))) rfl rfl rfl rfl rfl) ?_
 refine EL rfl rfl rfl rfl (kn rfl) rfl (kn rfl) sl_29 ap_29 rfl rfl (by first | omega | (dsimp only;omega)) (by first | omega | (dsimp only;omega)) ?_
 refine C7 ?_
 refine AH ?_
 try refine A1 ?_
 exact PJ [] [(1000,sR (l++[sK c]))] rfl rfl trivial ⟨G0 rfl (by simp) (by rw[HW];rfl),trivial⟩ ⟨rfl,rfl,rfl⟩
end Go.Proofs.Ytecfdcdkkgmkpaa
