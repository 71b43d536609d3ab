/- Part 18. Conditions: as each theorem says. -/
import Derived.Test.YtgcphgdkddihcaaGreatDoorSR17
import Derived.Test.YtgcphgdkddihcaaGreatDoorProg
set_option maxRecDepth 100000
namespace Go.Proofs.YtgcphgdkddihcaaGreatDoor
open Go.RowKit
def tCs(ts:List Dat)(n:Nat):List IV:=bcs ts++[.is (.int .i64 (n:Int)),.own 1001,.own 1002]
abbrev tB(L:List Ty):BL:=[(1000,⟨195,tCs (tds L) L.length⟩)]
abbrev rP(ps:List (List UInt8×Dat)):Rw:=⟨1000000,1,ps.length,mds kS ps,false⟩
abbrev rI(ps:List (Int×Dat)):Rw:=⟨1000001,1,ps.length,mds kI ps,false⟩
abbrev tRw(L:List Ty):RL:=[(1001,rP (plc L)),(1002,rI (NZ L))]
theorem IF{ts:List Dat}(h:ts.length=200)(n k:Nat):(tCs ts n)[200+k]?=[IV.is (.int .i64 (n:Int)),.own 1001,.own 1002][k]?:=by
 unfold tCs
 rw[List.getElem?_append_right (by simp[h]),List.length_map,h,Nat.add_sub_cancel_left]
theorem Q1q{ts:List Dat}(h:ts.length=200)(n:Nat):(tCs ts n).length=203:=by
 unfold tCs
 rw[List.length_append,List.length_map,h]
 rfl
theorem Q5z{ts:List Dat}(h:ts.length=200)(n m:Nat):(tCs ts n).set 200 (.is (.int .i64 (m:Int)))=tCs ts m:=by
 unfold tCs
 rw[List.set_append,if_neg (by rw[List.length_map,h];omega),List.length_map,h]
 rfl
theorem Q6E{ts:List Dat}(h:ts.length=200)(n:Nat):(tCs ts n).set (0+200) (.is (.int .i64 ((n:Int)+1)))=tCs ts (n+1):=Q5z h n (n+1)
abbrev TD(L:List Ty)(x:Ty):Ty:=⟨x.full,x.en,cnt x.en L,x.line,x.col⟩
theorem Q2T{L:List Ty}(h:L.length<40):∃ r,r.length=(39-L.length)*5 /\ ∀ x:Ty,tds (L++[x])=L.flatMap Ty.dats++(x.dats++r)/\tds L=L.flatMap Ty.dats++(ty0.dats++r):=by
 refine⟨(List.replicate (39-L.length) ty0).flatMap Ty.dats,by rw[IW Ty.dats_len,List.length_replicate],fun x=>⟨?_,?_⟩⟩
 ·unfold tds pad
  rw[List.length_append,List.length_singleton,show 40-(L.length+1)=39-L.length by omega,List.flatMap_append,List.flatMap_append,List.append_assoc]
  congr 1
 ·unfold tds pad
  rw[show 40-L.length=(39-L.length)+1 by omega,List.replicate_succ,List.flatMap_append,List.flatMap_cons]
theorem Q2w{L:List Ty}(h:L.length<40)(x:Ty)(n:Nat):(tCs (tds L) n).take (L.length*5)++x.dats.map (fun d=>IV.part (.one d))++(tCs (tds L) n).drop (L.length*5+x.dats.length)=tCs (tds (L++[x])) n:=by
 obtain⟨r,hr,hx⟩:=Q2T h
 obtain⟨h1,h2⟩:=hx x
 have hl:(L.flatMap Ty.dats).length=L.length*5:=IW Ty.dats_len L
 unfold tCs
 rw[h1,h2]
 unfold bcs
 simp only[List.map_append,List.append_assoc]
 have hm:((L.flatMap Ty.dats).map fun d=>IV.part (.one d)).length=L.length*5:=by rw[List.length_map,hl]
 rw[<- hm,List.take_left]
 congr 1
 congr 1
 rw[<- List.drop_drop,List.drop_left,Ty.dats_len]
 rw[List.drop_append,List.length_map,Ty.dats_len,Nat.sub_self,List.drop_zero,List.drop_eq_nil_of_le (by rw[List.length_map,Ty.dats_len];omega),List.nil_append]
theorem M4{R:RL}{x:IV}{d:Dat}{l:List IV}{ds:List Dat}(h1:shD R x=some d)(h2:shows R l=some ds):shows R (x::l)=some (d::ds):=by
 unfold shows
 rw[h1,h2]
theorem VI{R:RL}{L:List Ty}(h1:lk 1001 R=some (rP (plc L)))(h2:lk 1002 R=some (rI (NZ L))):shows R (tCs (tds L) L.length)=some (SD L):=by
 unfold tCs SD
 exact MT (Q0s _) (M4 rfl (M4 (by show(lk 1001 R).map datOf=_;rw[h1];rfl) (M4 (by show(lk 1002 R).map datOf=_;rw[h2];rfl) rfl)))
theorem Q5J(ts:List Dat)(n:Nat):((tCs ts n).all fun y=>y.bin [1000] [1001,1002])=true:=by
 unfold tCs
 rw[List.all_append]
 have:(bcs ts).all (fun y=>y.bin [1000] [1001,1002])=true:=by
  rw[List.all_eq_true]
  intro y hy
  obtain⟨d,_,rfl⟩:=List.mem_map.1 hy
  rfl
 rw[this]
 rfl
theorem Q5P(L M:List Ty)(p:Part):H0 (tB L) (tRw L) (.part p) (tB M) (tRw M):=by
 refine⟨rfl,rfl,?_,rfl⟩
 show((tCs (tds M) M.length).all fun y=>y.bin [1000] [1001,1002])&&true=true
 rw[Q5J]
 rfl
theorem Q5M(b:Nat)(ts:List Dat)(n:Nat):((tCs ts n).all fun y=>y.nob b)=true:=by
 unfold tCs
 rw[List.all_append]
 have:(bcs ts).all (fun y=>y.nob b)=true:=by
  rw[List.all_eq_true]
  intro y hy
  obtain⟨d,_,rfl⟩:=List.mem_map.1 hy
  rfl
 rw[this]
 rfl
theorem RB(b:Nat)(L:List Ty):MM b (tB L)=true:=by
 show((tCs (tds L) L.length).all fun y=>y.nob b)&&true=true
 rw[Q5M]
 rfl
theorem WQ{b c:Nat}{x:Bx}{B:BL}(h1:(x.cs.all fun y=>y.nob b)=true)(h2:MM b B=true):MM b ((c,x)::B)=true:=by
 show((x.cs.all fun y=>y.nob b)&&MM b B)=true
 rw[h1,h2]
 rfl
abbrev gS(ED EL:Er):List (Nat×List Value):=[(2,[eV ED]),(0,[eV EL])]
def Q36(ED EL:Er)(k:Nat):Er:=if k=1 then ED else EL
def TbY(ED EL:Er)(L:List Ty)(r:Except (Nat×Int×Int) (List Ty))(y:IV)(B1:BL)(R1:RL):Prop:=
 (∃ M,r=.ok M/\y=.part IS/\B1=tB M/\R1=tRw M) \/ ∃ k l c M,r=.error (k,l,c)/\y=.part (.one (sfD l c (Q36 ED EL k)))/\B1=tB M/\R1=tRw M
theorem TbY.tidy{ED EL:Er}{L:List Ty}{r:Except (Nat×Int×Int) (List Ty)}(y:IV)(B1:BL)(R1:RL)(h:TbY ED EL L r y B1 R1):H0 (tB L) (tRw L) y B1 R1:=by
 rcases h with⟨M,_,rfl,rfl,rfl⟩ | ⟨k,l,c,M,_,rfl,rfl,rfl⟩<;>exact Q5P _ _ _
theorem Q6I(ED EL:Er)(L:List Ty)(hL:GC L)(x:Ty)(hx:x.full.length<=140737488351232):EG Tryz.prog (gS ED EL) 133 [.box 1000 0,.part (tyP x)] (tB L) (tRw L) (TbY ED EL L (JZ L x)):=by
 have h40:=hL.2
 have htl:=IL h40
 refine B4 69 Tryz.func133 rfl rfl rfl fun w D bor mb=>?_
 try refine A0 ?_
 refine A8 ?_
 refine DZ 3 rfl rfl rfl rfl (kn rfl) rfl rfl rfl (RB 3 L) ?_
 refine AG ?_
 refine A6 ?_
 try refine A0 ?_
 refine A8 ?_
 refine AJ ?_
 refine AB (A3 rfl (kn rfl) off_192_0) ?_
 refine AB (A4 rfl (kn rfl) rfl rfl one_9) ?_
 refine AB (Q0G (ps:=[sP x.full]) rfl (by kernel_rfl) (QB _ L hL x.full) (kn rfl) rfl (VI rfl rfl) ⟨kn rfl,trivial⟩ (Far.many1 ((D2 x.full L).getD ty0).vals (.bool (D2 x.full L).isSome))) ?_
 refine AJ ?_
 refine B3 ?_
 refine B3 ?_
 refine AS 5 [.is (.string ⟨#[]⟩),.is (.bool false),.is (.int .i64 0),.is (.int .i64 0),.is (.int .i64 0)] rfl rfl rfl rfl zr_192 (fun w D M V=>⟨rfl,fun j x v h1 h2=>AR _ h1 h2 rfl⟩) rfl rfl (WQ rfl (RB 5 L)) rfl ?_
 refine AI rfl rfl rfl (kn rfl) rfl (kn rfl) rfl rfl sz_192 ?_
 refine AG ?_
 refine A6 ?_
 try refine A0 ?_
 refine A1 (AA rfl rfl rfl rfl rfl .nil) ?_
 try refine A0 ?_
 refine AO rfl (fun h=>?_) (fun h=>?_)
 ·have hr:JZ L x=.error (1,x.line,x.col):=by
   unfold JZ
   rw[if_pos h]
  rw[hr]
  try refine A0 ?_
  refine A1 (A5 rfl rfl rfl (AT (ds:=[_,_,_,_,_]) 5 rfl (kn rfl) rfl rfl agg_192 sz_192 rfl) (A5 rfl rfl rfl (C4 rfl (kn rfl) (List.mem_cons_self) one_28) (A5 rfl rfl rfl (AY rfl (by kernel_rfl) (VA _ x ED) ⟨(kn rfl),⟨(kn rfl),trivial⟩⟩) (AE rfl rfl rfl rfl rfl .nil)))) ?_
  try refine A0 ?_
  exact A7 (tB L) (tRw L) rfl (.tmp (kn rfl) (.nil)) (Imp.refl _) ⟨s_b,trivial⟩ ⟨rfl,rfl,trivial⟩ (.inr ⟨1,x.line,x.col,L,rfl,rfl,rfl,rfl⟩)
 ·have hn:¬ (D2 x.full L).isSome=true:=by rw[h];decide
  try refine A0 ?_
  refine A1 (AA rfl rfl rfl rfl rfl (A5 rfl rfl rfl (AL rfl (kn rfl)) (A5 rfl rfl rfl (A3 rfl (kn rfl) off_195_1) (A5 rfl rfl rfl (A4 rfl (kn rfl) rfl (IF htl _ 0) one_3) (A5 rfl rfl rfl (AN rfl (kn rfl) (kn rfl) D3) .nil))))) ?_
  try refine A0 ?_
  refine AO rfl (fun h4=>?_) (fun h4=>?_)
  ·have h4':L.length=40:=by have:=of_decide_eq_true h4;omega
   have hr:JZ L x=.error (2,x.line,x.col):=by
    unfold JZ
    rw[if_neg hn,if_pos h4']
   rw[hr]
   try refine A0 ?_
   refine A1 (A5 rfl rfl rfl (AT (ds:=[_,_,_,_,_]) 5 rfl (kn rfl) rfl rfl agg_192 sz_192 rfl) (A5 rfl rfl rfl (C4 rfl (kn rfl) (List.mem_cons_of_mem _ (List.mem_singleton.2 rfl)) one_28) (A5 rfl rfl rfl (AY rfl (by kernel_rfl) (VA _ x EL) ⟨(kn rfl),⟨(kn rfl),trivial⟩⟩) (AE rfl rfl rfl rfl rfl .nil)))) ?_
   try refine A0 ?_
   exact A7 (tB L) (tRw L) rfl (.tmp (kn rfl) (.nil)) (Imp.refl _) ⟨s_b,trivial⟩ ⟨rfl,rfl,trivial⟩ (.inr ⟨2,x.line,x.col,L,rfl,rfl,rfl,rfl⟩)
  ·have h4':¬ L.length=40:=by have:=of_decide_eq_false h4;omega
   have hlt:L.length<40:=by omega
   have hr:JZ L x=.ok (L++[TD L x]):=by
    unfold JZ
    rw[if_neg hn,if_neg h4']
   rw[hr]
   have hnl:=Z9 x.en L
   have hal:(L++[TD L x]).length=L.length+1:=by simp
   have htl':(tds (L++[TD L x])).length=200:=IL (by rw[hal];omega)
   have hst:=Q2w hlt (TD L x) L.length
   have hps:=Q5a L (TD L x)
   have hls:=Q2d L (TD L x)
   try refine A0 ?_
   refine A8 ?_
   refine AB (A3 rfl (kn rfl) off_192_0) ?_
   refine AB (A4 rfl (kn rfl) rfl rfl one_9) ?_
   refine AB (AY rfl (by kernel_rfl) (K4 _ x.full hx) ⟨(kn rfl),trivial⟩) ?_
   refine AB (A3 rfl (kn rfl) off_192_0) ?_
   refine C3 rfl rfl rfl (kn rfl) rfl (kn rfl) rfl rfl sz_9 rfl ?_
   refine A6 ?_
   try refine A0 ?_
   refine A8 ?_
   refine AJ ?_
   refine AB (A3 rfl (kn rfl) off_192_1) ?_
   refine AB (A4 rfl (kn rfl) rfl rfl one_4) ?_
   refine AB (Q0G (ps:=[bP x.en]) rfl (by kernel_rfl) (QN _ L hL x.en) (kn rfl) rfl (VI rfl rfl) ⟨kn rfl,trivial⟩ (Far.row 1001 1 _ _)) ?_
   refine AB (Q2o rfl (kn rfl) sle_54) ?_
   refine AB (A3 rfl (kn rfl) off_192_2) ?_
   refine C3 rfl rfl rfl (kn rfl) rfl (kn rfl) rfl rfl sz_3 rfl ?_
   refine A6 ?_
   try refine A0 ?_
   rw[hnl]
   refine DP 9 mixed (by kernel_rfl) (AA rfl rfl rfl rfl rfl (AA rfl rfl rfl rfl rfl (A5 rfl rfl rfl (AL rfl (kn rfl)) (A5 rfl rfl rfl (A3 rfl (kn rfl) off_195_1) (A5 rfl rfl rfl (A4 rfl (kn rfl) rfl (IF htl _ 0) one_3) (A5 rfl rfl rfl (AT (ds:=[_,_,_,_,_]) 5 rfl (kn rfl) rfl rfl agg_192 sz_192 rfl) (A5 rfl rfl rfl (AL rfl (kn rfl)) (A5 rfl rfl rfl (A3 rfl (kn rfl) off_195_0) (A5 rfl rfl rfl (Y4 (z:=(L.length:Int)) rfl (kn rfl) (kn rfl) (by rw[Q6u];omega) Q60 Q6Q) .nil))))))))) ?_
   refine ZR rfl rfl rfl (kn rfl) rfl (kn rfl) rfl (by rw[Q1q htl];exact Nat.ble_eq_true_of_le (by show 0+0+L.length*5+5<=203;omega)) sz_192 (is:=tCs (tds (L++[TD L x])) L.length) (by rw[show 0+0+(L.length:Int).toNat*5=L.length*5 by omega];exact hst) ?_
   refine A6 ?_
   try refine A0 ?_
   refine DP 10 mixed (by kernel_rfl) (AA rfl rfl rfl rfl rfl (A5 rfl rfl rfl (AL rfl (kn rfl)) (A5 rfl rfl rfl (A3 rfl (kn rfl) off_195_2) (A5 rfl rfl rfl (A4 rfl (kn rfl) rfl (IF htl' _ 1) one_190) (A5 rfl rfl rfl (A3 rfl (kn rfl) off_192_0) (A5 rfl rfl rfl (A4 rfl (kn rfl) rfl rfl one_9) (AA rfl rfl rfl rfl rfl (A5 rfl rfl rfl (AL rfl (kn rfl)) (A5 rfl rfl rfl (A3 rfl (kn rfl) off_195_1) (A5 rfl rfl rfl (A4 rfl (kn rfl) rfl (IF htl' _ 0) one_3) .nil)))))))))) ?_
   refine WV (c:=x.full) (kf:=kS) rfl rfl rfl (kn rfl) rfl (kn rfl) (kn rfl) kfS Q6R ?_ rfl
   refine A6 ?_
   try refine A0 ?_
   refine DP 7 mixed (by kernel_rfl) (AA rfl rfl rfl rfl rfl (A5 rfl rfl rfl (AL rfl (kn rfl)) (A5 rfl rfl rfl (A3 rfl (kn rfl) off_195_3) (A5 rfl rfl rfl (A4 rfl (kn rfl) rfl (IF htl' _ 2) one_191) (A5 rfl rfl rfl (A3 rfl (kn rfl) off_192_0) (A5 rfl rfl rfl (A4 rfl (kn rfl) rfl rfl one_9) (A5 rfl rfl rfl (GI rfl (kn rfl) str_9) .nil))))))) ?_
   refine WV (c:=(x.full.length:Int)) (kf:=kI) rfl rfl rfl (kn rfl) rfl (kn rfl) (kn rfl) kfI Q7O ?_ rfl
   refine A6 ?_
   try refine A0 ?_
   refine A8 ?_
   refine AJ ?_
   refine AB (AL rfl (kn rfl)) ?_
   refine AB (A3 rfl (kn rfl) off_195_1) ?_
   refine AB (A4 rfl (kn rfl) rfl (IF htl' _ 0) one_3) ?_
   refine AB (AN rfl (kn rfl) (kn rfl) (BF (by first | omega | (dsimp only;omega)))) ?_
   refine AB (AL rfl (kn rfl)) ?_
   refine AB (A3 rfl (kn rfl) off_195_1) ?_
   refine C3 rfl rfl rfl (kn rfl) rfl (kn rfl) rfl (by rw[Q1q htl'];rfl) sz_3 (is:=tCs (tds (L++[TD L x])) (L.length+1)) (Q6E htl' L.length) ?_
   refine A6 ?_
   try refine A0 ?_
   refine A1 (AE rfl rfl rfl rfl rfl .nil) ?_
   try refine A0 ?_
   exact A7 (tB (L++[TD L x])) (tRw (L++[TD L x])) rfl (.tmp (kn rfl) (.nil)) (Imp.refl _) ⟨Q1G _ (by rw[hal];rfl),trivial⟩ ⟨by rw[hps];rfl,by rw[hls];rfl,trivial⟩ (.inl ⟨_,rfl,rfl,rfl,rfl⟩)
theorem Q0q(ahead:List UInt8)(x:Msg):tyM ahead x=⟨ahead++x.name,false,0,x.line,x.col⟩::E1 (ahead++x.name++[46]) x.enums x.msgs:=by
 cases x
 rfl
theorem MOk.all{N d:Nat}{x:Msg}(h:MOk N (d+1) x):NmOk N x.name/\(∀ y∈x.enums,NmOk N y.name) /\ ∀ k∈x.msgs,MOk N d k:=by
 cases x
 exact h
theorem NB(L:List Ty)(x:Ty)(xs:List Ty):CC L (x::xs)=match JZ L x with | .error e=>.error e | .ok M=>CC M xs:=rfl
theorem VD{α:Type}{l:List α}{i:Nat}{x:α}(h:l[i]?=some x):l.drop i=x::l.drop (i+1):=by
 obtain⟨h1,h2⟩:=List.getElem?_eq_some_iff.1 h
 rw[List.drop_eq_getElem_cons h1,h2]
set_option maxHeartbeats 4000000 in
theorem P2(ED EL:Er)(N:Nat)(hN:N<=1000000)(d s:Nat)
  (ahead:List UInt8) (e:List Enm) (m:List Msg) (ih:∀ x∈m,∀ (ahead':List UInt8) (L':List Ty),GC L'->ahead'.length+s*(N+2)<=1000000000000->EG Tryz.prog (gS ED EL) 80 [.box 1000 0,.part (sP ahead'),.part (.one (.row 4 x.enums.length (x.enums.flatMap Enm.dats))),.part (.one (.row 9 x.msgs.length (x.msgs.flatMap Msg.dats)))] (tB L') (tRw L') (TbY ED EL L' (CC L' (E1 ahead' x.enums x.msgs))))
  (L:List Ty) (hL:GC L) (hel:e.length<=100000000000) (hml:m.length<=100000000000) (he:∀ x∈e,NmOk N x.name) (hm:∀ k∈m,MOk N (d+1) k/\k.fine) (ha:ahead.length+(s+1)*(N+2)<=1000000000000):
  EG Tryz.prog (gS ED EL) 80 [.box 1000 0,.part (sP ahead),.part (.one (.row 4 e.length (e.flatMap Enm.dats))),.part (.one (.row 9 m.length (m.flatMap Msg.dats)))] (tB L) (tRw L) (TbY ED EL L (CC L (E1 ahead e m))):=by
 have ha':ahead.length+s*(N+2)+(N+2)<=1000000000000:=by rw[Nat.succ_mul]at ha;omega
 refine B4 72 Tryz.func80 rfl rfl rfl fun w D bor mb=>?_
 try refine A0 ?_
 refine A1 (AE rfl rfl rfl rfl rfl .nil) ?_
 try refine A0 ?_
 refine A1 (AA rfl rfl rfl rfl rfl (A5 rfl rfl rfl (CI rfl (kn rfl) sle_40) (AA rfl rfl rfl rfl rfl .nil))) ?_
 try refine A0 ?_
 refine CB (ι:={ i:Nat×List Ty // i.1<=e.length/\GC i.2/\CC L (E1 ahead e m)=CC i.2 ((e.drop i.1).map (tyE ahead)++tyMs ahead m) })
  (fun i=>[(0,.box 1000 0),(1,.part (sP ahead)),(3,.part (.one (.row 9 m.length (m.flatMap Msg.dats)))),(17,.part (.one (.row 4 e.length (e.flatMap Enm.dats)))),(18,.is (.int .i64 (e.length:Int))),(19,.is (.int .i64 (i.1.1:Int)))])
  (fun i=>tB i.1.2) (fun i=>tRw i.1.2) (fun i=>e.length-i.1.1)
  ⟨(0,L),by dsimp only;omega,hL,rfl⟩
  (fun K=>B8 ⟨s_t,s_t,s_t,s_t,s_t,s_t,trivial⟩ ⟨s_b,trivial⟩ ⟨rfl,rfl,trivial⟩) ?_
 ·rintro⟨⟨i,M⟩,hi,hM,hinv⟩
  dsimp only at hi hM hinv ⊢
  try refine A0 ?_
  refine A1 (A5 rfl rfl rfl (AN rfl (kn rfl) (kn rfl) CP) .nil) ?_
  try refine A0 ?_
  refine AO rfl (fun h=>?_) (fun h=>?_)
  ·have hlt:i<e.length:=by have:=of_decide_eq_true h;omega
   obtain⟨x,hx⟩:∃ x,e[i]?=some x:=⟨_,List.getElem?_eq_getElem hlt⟩
   obtain⟨hx1,hx2,hx3⟩:=he x (List.mem_of_getElem? hx)
   rw[VD hx,List.map_cons,List.cons_append,NB]at hinv
   have hfl:(tyE ahead x).full.length<=140737488351232:=by
    show(ahead++x.name).length<=_
    rw[List.length_append]
    omega
   try refine A0 ?_
   refine A8 ?_
   refine AB (BO rfl (kn rfl) (kn rfl) (by omega) hx Enm.dats_len sle_40 esz_40 rfl) ?_
   refine AB (BQ rfl (kn rfl) agg_200 sz_200) ?_
   refine AS 10 [.is (.string ⟨#[]⟩),.is (.slice none 0 0),.is (.int .i64 0),.is (.int .i64 0)] rfl rfl rfl rfl zr_200 (fun w D M V=>⟨rfl,fun j x v h1 h2=>AR _ h1 h2 rfl⟩) rfl rfl (RB 10 M) rfl ?_
   refine AI rfl rfl rfl (kn rfl) rfl (kn rfl) rfl rfl sz_200 ?_
   refine A6 ?_
   try refine A0 ?_
   refine A8 ?_
   refine AJ ?_
   refine AJ ?_
   refine AB (A3 rfl (kn rfl) off_200_0) ?_
   refine AB (A4 rfl (kn rfl) rfl rfl one_9) ?_
   refine AB (AN rfl (kn rfl) (kn rfl) (IP (by first | omega | (simp only[List.length_append,List.length_cons,List.length_nil];omega)))) ?_
   refine AB (A3 rfl (kn rfl) off_200_2) ?_
   refine AB (A4 rfl (kn rfl) rfl rfl one_3) ?_
   refine AB (A3 rfl (kn rfl) off_200_3) ?_
   refine AB (A4 rfl (kn rfl) rfl rfl one_3) ?_
   refine AB (B9 (ds:=[_,_,_,_,_]) [(0,_),(1,_),(3,_),(4,_)] rfl ⟨rfl,(kn rfl),⟨rfl,(kn rfl),⟨rfl,(kn rfl),⟨rfl,(kn rfl),trivial⟩⟩⟩⟩ rfl pl_192 zr_192 (fun w D=>.cons (.cell _) (.cons (.cell _) (.cons (.cell _) (.cons (.cell _) (.cons (.cell _) (.nil _ _)))))) rfl) ?_
   refine AH rfl rfl rfl rfl (by kernel_rfl) (Q6I ED EL M hM (tyE ahead x) hfl) ⟨rfl,trivial⟩ ⟨rfl,rfl,trivial⟩ ⟨(kn rfl),⟨(kn rfl),trivial⟩⟩ (TbY.tidy) ?_
   rintro _ _ _ (⟨M',hr,rfl,rfl,rfl⟩ | ⟨k,li,co,M',hr,rfl,rfl,rfl⟩)
   ·rw[hr]at hinv
    refine AG ?_
    refine A6 ?_
    try refine A0 ?_
    refine A1 (AA rfl rfl rfl rfl rfl (A5 rfl rfl rfl (AQ rfl (kn rfl) ifc_28) .nil)) ?_
    try refine A0 ?_
    refine C1 ?_
    try refine A0 ?_
    refine A1 (A5 rfl rfl rfl (AN rfl (kn rfl) (kn rfl) (BF (by first | omega | (dsimp only;omega)))) (AA rfl rfl rfl rfl rfl .nil)) ?_
    try refine A0 ?_
    refine BB ⟨(i+1,M'),by dsimp only;omega,(Q4 hM hr).1,hinv⟩ (by dsimp only;omega) (fun K=>B8 ⟨s_t,s_t,s_t,s_t,s_t,s_t,trivial⟩ ⟨s_b,trivial⟩ ⟨rfl,rfl,trivial⟩)
   ·rw[hr]at hinv
    rw[hinv]
    refine AG ?_
    refine A6 ?_
    try refine A0 ?_
    refine A1 (AA rfl rfl rfl rfl rfl (A5 rfl rfl rfl (AP rfl (kn rfl) rfl ifc_28) .nil)) ?_
    try refine A0 ?_
    refine BD ?_
    try refine A0 ?_
    refine A1 (AA rfl rfl rfl rfl rfl (AE rfl rfl rfl rfl rfl .nil)) ?_
    try refine A0 ?_
    exact A7 (tB M') (tRw M') rfl (.tmp (kn rfl) (.nil)) (Imp.refl _) ⟨s_b,trivial⟩ ⟨rfl,rfl,trivial⟩ (.inr ⟨k,li,co,M',rfl,rfl,rfl,rfl⟩)
  ·obtain rfl:i=e.length:=by have:=of_decide_eq_false h;omega
   rw[List.drop_length,List.map_nil,List.nil_append]at hinv
   try refine A0 ?_
   refine A1 (AA rfl rfl rfl rfl rfl (A5 rfl rfl rfl (CI rfl (kn rfl) sle_39) (AA rfl rfl rfl rfl rfl .nil))) ?_
   try refine A0 ?_
   refine CB (ι:={ i:Nat×List Ty // i.1<=m.length/\GC i.2/\CC L (E1 ahead e m)=CC i.2 (tyMs ahead (m.drop i.1)) })
    (fun i=>[(0,.box 1000 0),(1,.part (sP ahead)),(38,.part (.one (.row 9 m.length (m.flatMap Msg.dats)))),(39,.is (.int .i64 (m.length:Int))),(40,.is (.int .i64 (i.1.1:Int)))])
    (fun i=>tB i.1.2) (fun i=>tRw i.1.2) (fun i=>m.length-i.1.1)
    ⟨(0,M),by dsimp only;omega,hM,hinv⟩
    (fun K=>B8 ⟨s_t,s_t,s_t,s_t,s_t,trivial⟩ ⟨s_b,trivial⟩ ⟨rfl,rfl,trivial⟩) ?_
   clear hinv hM hi h M
   rintro⟨⟨i,M⟩,hi,hM,hinv⟩
   dsimp only at hi hM hinv ⊢
   try refine A0 ?_
   refine A1 (A5 rfl rfl rfl (AN rfl (kn rfl) (kn rfl) CP) .nil) ?_
   try refine A0 ?_
   refine AO rfl (fun h=>?_) (fun h=>?_)
   ·have hlt:i<m.length:=by have:=of_decide_eq_true h;omega
    obtain⟨x,hx⟩:∃ x,m[i]?=some x:=⟨_,List.getElem?_eq_getElem hlt⟩
    obtain⟨hxo,hxf⟩:=hm x (List.mem_of_getElem? hx)
    obtain⟨⟨hx1,hx2,hx3⟩,hxe,hxm⟩:=hxo.all
    obtain⟨f1,f2,f3,f4,f5,f6,f7,f8⟩:=(Msg.fine_iff x).1 hxf
    rw[VD hx,tyMs,Q0q,List.cons_append,NB]at hinv
    have hfl:(⟨ahead++x.name,false,0,x.line,x.col⟩:Ty).full.length<=140737488351232:=by
     show(ahead++x.name).length<=_
     rw[List.length_append]
     omega
    have hal:(ahead++x.name++[46]).length+s*(N+2)<=1000000000000:=by
     rw[List.length_append,List.length_append,List.length_singleton]
     omega
    try refine A0 ?_
    refine A8 ?_
    refine AB (BO rfl (kn rfl) (kn rfl) (by omega) hx Msg.dats_len sle_39 esz_39 (KX x)) ?_
    refine AB (BQ rfl (kn rfl) agg_204 sz_204) ?_
    refine AS 13 [.is (.string ⟨#[]⟩),.is (.slice none 0 0),.is (.slice none 0 0),.is (.slice none 0 0),.is (.slice none 0 0),.is (.slice none 0 0),.is (.slice none 0 0),.is (.int .i64 0),.is (.int .i64 0)] rfl rfl rfl rfl zr_204 (fun w D M V=>⟨rfl,fun j x v h1 h2=>AR _ h1 h2 rfl⟩) rfl rfl (RB 13 M) rfl ?_
    refine AI rfl rfl rfl (kn rfl) rfl (kn rfl) rfl rfl sz_204 ?_
    refine A6 ?_
    try refine A0 ?_
    refine A8 ?_
    refine AJ ?_
    refine AB (A3 rfl (kn rfl) off_204_0) ?_
    refine AB (A4 rfl (kn rfl) rfl rfl one_9) ?_
    refine AB (AN rfl (kn rfl) (kn rfl) (IP (by first | omega | (simp only[List.length_append,List.length_cons,List.length_nil];omega)))) ?_
    refine AB (A3 rfl (kn rfl) off_204_7) ?_
    refine AB (A4 rfl (kn rfl) rfl rfl one_3) ?_
    refine AB (A3 rfl (kn rfl) off_204_8) ?_
    refine AB (A4 rfl (kn rfl) rfl rfl one_3) ?_
    refine AB (B9 (ds:=[_,_,_,_,_]) [(0,_),(3,_),(4,_)] rfl ⟨rfl,(kn rfl),⟨rfl,(kn rfl),⟨rfl,(kn rfl),trivial⟩⟩⟩ rfl pl_192 zr_192 (fun w D=>.cons (.cell _) (.cons (.cell _) (.cons (.cell _) (.cons (.cell _) (.cons (.cell _) (.nil _ _)))))) rfl) ?_
    refine AS 14 [.is (.string ⟨#[]⟩),.is (.bool false),.is (.int .i64 0),.is (.int .i64 0),.is (.int .i64 0)] rfl rfl rfl rfl zr_192 (fun w D M V=>⟨rfl,fun j x v h1 h2=>AR _ h1 h2 rfl⟩) rfl rfl (WQ rfl (WQ rfl (RB 14 M))) rfl ?_
    refine AI rfl rfl rfl (kn rfl) rfl (kn rfl) rfl rfl sz_192 ?_
    refine A6 ?_
    try refine A0 ?_
    refine A8 ?_
    refine AJ ?_
    refine AB (AT (ds:=[_,_,_,_,_]) 5 rfl (kn rfl) rfl rfl agg_192 sz_192 rfl) ?_
    refine AH rfl rfl rfl rfl (by kernel_rfl) (Q6I ED EL M hM ⟨ahead++x.name,false,0,x.line,x.col⟩ hfl) ⟨rfl,trivial⟩ ⟨rfl,rfl,trivial⟩ ⟨(kn rfl),⟨(kn rfl),trivial⟩⟩ (TbY.tidy) ?_
    rintro _ _ _ (⟨M',hr,rfl,rfl,rfl⟩ | ⟨k,li,co,M',hr,rfl,rfl,rfl⟩)
    ·have hM':=(Q4 hM hr).1
     rw[hr]at hinv
     dsimp only at hinv
     rw[KF]at hinv
     refine AG ?_
     refine A6 ?_
     try refine A0 ?_
     refine A1 (AA rfl rfl rfl rfl rfl (A5 rfl rfl rfl (AQ rfl (kn rfl) ifc_28) .nil)) ?_
     try refine A0 ?_
     refine C1 ?_
     try refine A0 ?_
     refine A8 ?_
     refine AJ ?_
     refine AB (A3 rfl (kn rfl) off_192_0) ?_
     refine AB (A4 rfl (kn rfl) rfl rfl one_9) ?_
     refine AB (AN rfl (kn rfl) (kn rfl) (IP (by first | omega | (simp only[List.length_append,List.length_cons,List.length_nil];omega)))) ?_
     refine AB (A3 rfl (kn rfl) off_204_4) ?_
     refine AB (A4 rfl (kn rfl) rfl rfl one_40) ?_
     refine AB (A3 rfl (kn rfl) off_204_3) ?_
     refine AB (A4 rfl (kn rfl) rfl rfl one_39) ?_
     refine AH rfl rfl rfl rfl (by kernel_rfl) (ih x (List.mem_of_getElem? hx) (ahead++x.name++[46]) M' hM' hal) ⟨rfl,trivial⟩ ⟨rfl,rfl,trivial⟩ ⟨(kn rfl),⟨(kn rfl),⟨(kn rfl),⟨(kn rfl),trivial⟩⟩⟩⟩ (TbY.tidy) ?_
     rintro _ _ _ (⟨M2,hr2,rfl,rfl,rfl⟩ | ⟨k,li,co,M2,hr2,rfl,rfl,rfl⟩)
     ·rw[hr2]at hinv
      refine AG ?_
      refine A6 ?_
      try refine A0 ?_
      refine A1 (AA rfl rfl rfl rfl rfl (A5 rfl rfl rfl (AQ rfl (kn rfl) ifc_28) .nil)) ?_
      try refine A0 ?_
      refine C1 ?_
      try refine A0 ?_
      refine A1 (A5 rfl rfl rfl (AN rfl (kn rfl) (kn rfl) (BF (by first | omega | (dsimp only;omega)))) (AA rfl rfl rfl rfl rfl .nil)) ?_
      try refine A0 ?_
      refine BB ⟨(i+1,M2),by dsimp only;omega,F1 hM' hr2,hinv⟩ (by dsimp only;omega) (fun K=>B8 ⟨s_t,s_t,s_t,s_t,s_t,trivial⟩ ⟨s_b,trivial⟩ ⟨rfl,rfl,trivial⟩)
     ·rw[hr2]at hinv
      rw[hinv]
      refine AG ?_
      refine A6 ?_
      try refine A0 ?_
      refine A1 (AA rfl rfl rfl rfl rfl (A5 rfl rfl rfl (AP rfl (kn rfl) rfl ifc_28) .nil)) ?_
      try refine A0 ?_
      refine BD ?_
      try refine A0 ?_
      refine A1 (AA rfl rfl rfl rfl rfl (AE rfl rfl rfl rfl rfl .nil)) ?_
      try refine A0 ?_
      exact A7 (tB M2) (tRw M2) rfl (.tmp (kn rfl) (.nil)) (Imp.refl _) ⟨s_b,trivial⟩ ⟨rfl,rfl,trivial⟩ (.inr ⟨k,li,co,M2,rfl,rfl,rfl,rfl⟩)
    ·rw[hr]at hinv
     rw[hinv]
     refine AG ?_
     refine A6 ?_
     try refine A0 ?_
     refine A1 (AA rfl rfl rfl rfl rfl (A5 rfl rfl rfl (AP rfl (kn rfl) rfl ifc_28) .nil)) ?_
     try refine A0 ?_
     refine BD ?_
     try refine A0 ?_
     refine A1 (AA rfl rfl rfl rfl rfl (AE rfl rfl rfl rfl rfl .nil)) ?_
     try refine A0 ?_
     exact A7 (tB M') (tRw M') rfl (.tmp (kn rfl) (.nil)) (Imp.refl _) ⟨s_b,trivial⟩ ⟨rfl,rfl,trivial⟩ (.inr ⟨k,li,co,M',rfl,rfl,rfl,rfl⟩)
   ·obtain rfl:i=m.length:=by have:=of_decide_eq_false h;omega
    rw[List.drop_length]at hinv
    rw[hinv]
    try refine A0 ?_
    refine A1 (AE rfl rfl rfl rfl rfl .nil) ?_
    try refine A0 ?_
    exact A7 (tB M) (tRw M) rfl (.tmp (kn rfl) (.nil)) (Imp.refl _) ⟨s_b,trivial⟩ ⟨rfl,rfl,trivial⟩ (.inl ⟨M,rfl,rfl,rfl,rfl⟩)
theorem QW(ED EL:Er)(N:Nat)(hN:N<=1000000):∀ (d:Nat) (ahead:List UInt8) (e:List Enm) (m:List Msg) (L:List Ty),GC L->e.length<=100000000000->m.length<=100000000000->(∀ x∈e,NmOk N x.name)->(∀ k∈m,MOk N d k/\k.fine)->ahead.length+(d+1)*(N+2)<=1000000000000 ->
  EG Tryz.prog (gS ED EL) 80 [.box 1000 0,.part (sP ahead),.part (.one (.row 4 e.length (e.flatMap Enm.dats))),.part (.one (.row 9 m.length (m.flatMap Msg.dats)))] (tB L) (tRw L) (TbY ED EL L (CC L (E1 ahead e m)))
 | 0,ahead,e,m,L,hL,hel,hml,he,hm,ha=>P2 ED EL N hN 0 0 ahead e m (fun x hx=>((hm x hx).1:False).elim) L hL hel hml he (fun k hk=>((hm k hk).1:False).elim) ha
 | d+1,ahead,e,m,L,hL,hel,hml,he,hm,ha=>P2 ED EL N hN d (d+1) ahead e m (fun x hx ahead' L' hL' ha'=>by
   have hx':=(hm x hx).1.all
   have hf:=(Msg.fine_iff x).1 (hm x hx).2
   refine QW ED EL N hN d ahead' x.enums x.msgs L' hL' hf.2.2.2.1 hf.2.2.1 hx'.2.1 (fun k hk=>⟨hx'.2.2 k hk,hf.2.2.2.2.2.2.2 k hk⟩) ha') L hL hel hml he hm ha
def zTab:List Value:=(List.replicate 40 [Value.string ⟨#[]⟩,.bool false,.int .i64 0,.int .i64 0,.int .i64 0]).flatten++[.int .i64 0,.map none,.map none]
theorem Q2A:C5 Tryz.prog 195=some zTab:=by kernel_rfl
theorem Q5m:((zTab.map IV.is).set 201 (.own 1001)).set 202 (.own 1002)=tCs (tds []) 0:=by kernel_rfl
theorem Q4E:zTab.all (·.oneCell')=true:=by kernel_rfl
theorem YM:zTab.length=203:=by kernel_rfl
theorem Q1H{ts:List Dat}(h:ts.length=200)(n:Nat)(d:Dat):(tCs ts n).set 201 (.part (.one d))=bcs ts++[.is (.int .i64 (n:Int)),.part (.one d),.own 1002]:=by
 unfold tCs
 rw[List.set_append,if_neg (by rw[List.length_map,h];omega),List.length_map,h]
 rfl
theorem Q1Q{ts:List Dat}(h:ts.length=200)(n:Nat)(d e:Dat):(bcs ts++[IV.is (.int .i64 (n:Int)),.part (.one d),.own 1002]).set 202 (.part (.one e))=bcs (ts++[.cell (.int .i64 (n:Int)),d,e]):=by
 rw[List.set_append,if_neg (by rw[List.length_map,h];omega),List.length_map,h]
 unfold bcs
 rw[List.map_append]
 rfl
theorem Q1w{ts:List Dat}(h:ts.length=200)(n:Nat)(d:Dat):(bcs ts++[IV.is (.int .i64 (n:Int)),.part (.one d),.own 1002])[202]?=some (.own 1002):=by
 rw[List.getElem?_append_right (by simp[h]),List.length_map,h]
 rfl
theorem M8:∀ ds:List Dat,manyOf (bcs ds)=some ds
 | []=>rfl
 | d::ds=>by
  show(match manyOf (bcs ds)with | some es=>some (d::es) | none=>none)=_
  rw[M8 ds]
def ofR(ED EL:Er)(r:Except (Nat×Int×Int) (List Ty)):IV:=match r with | .ok L=>.tup [Q0n L,IS] | .error (k,l,c)=>.tup [.one (.cell (.pointer none)),.one (sfD l c (Q36 ED EL k))]
structure FOk (N:Nat) (f:Fil):Prop where
 fine:f.fine
 pk:f.package.length<=100000000000
 pk1:f.package.head? ≠ some 46
 en:∀ x∈f.enums,NmOk N x.name
 ms:∀ k∈f.msgs,MOk N 8 k
set_option maxHeartbeats 4000000 in
theorem Q7k(ED EL:Er)(N:Nat)(hN:N<=1000000)(f:Fil)(hf:FOk N f):EF Tryz.prog (gS ED EL) 48 [FQ f] (ofR ED EL (EX f)):=by
 have tb0:GC []:=⟨List.nodup_nil,by simp⟩
 have hpk:=hf.pk
 have hal:(DG f.package).length+(8+1)*(N+2)<=1000000000000:=by
  unfold DG
  split
  ·simp;omega
  ·simp;omega
 refine AU 28 Tryz.func48 rfl rfl rfl fun w D=>?_
 try refine A0 ?_
 refine A8 ?_
 refine DZ 1 rfl rfl rfl rfl (kn rfl) rfl rfl rfl rfl ?_
 refine AG ?_
 refine AG ?_
 refine A6 ?_
 try refine A0 ?_
 refine A8 ?_
 refine Q1a 1001 1000000 1 rfl rfl rfl rfl rfl rfl ?_ rfl
 refine Q1a 1002 1000001 1 rfl rfl rfl rfl rfl rfl ?_ rfl
 refine YI 1000 rfl rfl rfl rfl pl_195 Q2A rfl rfl (by rw[YM];omega) (by rw[YM];omega) (kn rfl) (kn rfl) rfl rfl rfl rfl rfl rfl rfl rfl Q4E rfl rfl rfl ?_
 rw[Q5m]
 refine AG ?_
 refine A6 ?_
 try refine A0 ?_
 refine A1 (AE rfl rfl rfl rfl rfl .nil) ?_
 try refine A0 ?_
 refine A1 (A5 rfl rfl rfl (A3 rfl (kn rfl) off_42_0) (A5 rfl rfl rfl (A4 rfl (kn rfl) rfl rfl one_9) (A5 rfl rfl rfl (AN rfl (kn rfl) (kn rfl) (RT (b:=[]))) .nil))) ?_
 try refine A0 ?_
 by_cases hp:f.package=[]
 ·refine AO rfl (fun h=>by rw[hp]at h;exact absurd h (by decide)) (fun _=>?_)
  have ha:DG f.package=[]:=if_pos hp
  rw[ha]at hal
  have htab:EX f=CC [] (E1 [] f.enums f.msgs):=by unfold EX MF;rw[ha]
  try refine A0 ?_
  refine A8 ?_
  refine AJ ?_
  refine AJ ?_
  refine AB (A3 rfl (kn rfl) off_42_2) ?_
  refine AB (A4 rfl (kn rfl) rfl rfl one_40) ?_
  refine AB (A3 rfl (kn rfl) off_42_1) ?_
  refine AB (A4 rfl (kn rfl) rfl rfl one_39) ?_
  refine AH rfl rfl rfl rfl (by kernel_rfl) (QW ED EL N hN 8 ([]) f.enums f.msgs [] tb0 hf.fine.2.1 hf.fine.1 hf.en (fun k hk=>⟨hf.ms k hk,hf.fine.2.2.2 k hk⟩) hal) ⟨rfl,trivial⟩ ⟨rfl,rfl,trivial⟩ ⟨(kn rfl),⟨(kn rfl),⟨(kn rfl),⟨(kn rfl),trivial⟩⟩⟩⟩ (TbY.tidy) ?_
  rintro _ _ _ (⟨M,hr,rfl,rfl,rfl⟩ | ⟨k,li,co,M,hr,rfl,rfl,rfl⟩)
  ·have hr':EX f=.ok M:=htab.trans hr
   have hM:=F1 tb0 hr
   have htl:=IL hM.2
   rw[hr']
   refine AG ?_
   refine A6 ?_
   try refine A0 ?_
   refine A1 (AA rfl rfl rfl rfl rfl (A5 rfl rfl rfl (AQ rfl (kn rfl) ifc_28) .nil)) ?_
   try refine A0 ?_
   refine C1 ?_
   try refine A0 ?_
   refine A1 (AA rfl rfl rfl rfl rfl (AE rfl rfl rfl rfl rfl (AE rfl rfl rfl rfl rfl .nil))) ?_
   try refine A0 ?_
   refine FB 1000 201 1001 rfl (IF htl _ 1) rfl rfl (Q1H htl _ _) ?_ rfl
   refine FB 1000 202 1002 rfl (Q1w htl _ _) rfl rfl (Q1Q htl _ _ _) ?_ rfl
   refine FA 2 1000 rfl rfl (M8 _) ?_
   exact AM rfl rfl (.tmp (kn rfl) (.tmp (kn rfl) (.nil))) (Imp.refl _) rfl
  ·have hr':EX f=.error (k,li,co):=htab.trans hr
   rw[hr']
   refine AG ?_
   refine A6 ?_
   try refine A0 ?_
   refine A1 (AA rfl rfl rfl rfl rfl (A5 rfl rfl rfl (AP rfl (kn rfl) rfl ifc_28) .nil)) ?_
   try refine A0 ?_
   refine BD ?_
   try refine A0 ?_
   refine A1 (AA rfl rfl rfl rfl rfl (AE rfl rfl rfl rfl rfl (AE rfl rfl rfl rfl rfl .nil))) ?_
   try refine A0 ?_
   exact AM rfl rfl (.tmp (kn rfl) (.tmp (kn rfl) (.nil))) (Imp.refl _) rfl
 ·refine AO rfl (fun _=>?_) (fun h=>absurd h (by simpa using hp))
  have ha:DG f.package=f.package++[46]:=if_neg hp
  rw[ha]at hal
  have htab:EX f=CC [] (E1 (f.package++[46]) f.enums f.msgs):=by unfold EX MF;rw[ha]
  try refine A0 ?_
  refine A1 (A5 rfl rfl rfl (A3 rfl (kn rfl) off_42_0) (A5 rfl rfl rfl (A4 rfl (kn rfl) rfl rfl one_9) (A5 rfl rfl rfl (AN rfl (kn rfl) (kn rfl) (IP (by first | omega | (simp only[List.length_append,List.length_cons,List.length_nil];omega)))) (AE rfl rfl rfl rfl rfl .nil)))) ?_
  try refine A0 ?_
  try refine A0 ?_
  refine A8 ?_
  refine AJ ?_
  refine AJ ?_
  refine AB (A3 rfl (kn rfl) off_42_2) ?_
  refine AB (A4 rfl (kn rfl) rfl rfl one_40) ?_
  refine AB (A3 rfl (kn rfl) off_42_1) ?_
  refine AB (A4 rfl (kn rfl) rfl rfl one_39) ?_
  refine AH rfl rfl rfl rfl (by kernel_rfl) (QW ED EL N hN 8 (f.package++[46]) f.enums f.msgs [] tb0 hf.fine.2.1 hf.fine.1 hf.en (fun k hk=>⟨hf.ms k hk,hf.fine.2.2.2 k hk⟩) hal) ⟨rfl,trivial⟩ ⟨rfl,rfl,trivial⟩ ⟨(kn rfl),⟨(kn rfl),⟨(kn rfl),⟨(kn rfl),trivial⟩⟩⟩⟩ (TbY.tidy) ?_
  rintro _ _ _ (⟨M,hr,rfl,rfl,rfl⟩ | ⟨k,li,co,M,hr,rfl,rfl,rfl⟩)
  ·have hr':EX f=.ok M:=htab.trans hr
   have hM:=F1 tb0 hr
   have htl:=IL hM.2
   rw[hr']
   refine AG ?_
   refine A6 ?_
   try refine A0 ?_
   refine A1 (AA rfl rfl rfl rfl rfl (A5 rfl rfl rfl (AQ rfl (kn rfl) ifc_28) .nil)) ?_
   try refine A0 ?_
   refine C1 ?_
   try refine A0 ?_
   refine A1 (AA rfl rfl rfl rfl rfl (AE rfl rfl rfl rfl rfl (AE rfl rfl rfl rfl rfl .nil))) ?_
   try refine A0 ?_
   refine FB 1000 201 1001 rfl (IF htl _ 1) rfl rfl (Q1H htl _ _) ?_ rfl
   refine FB 1000 202 1002 rfl (Q1w htl _ _) rfl rfl (Q1Q htl _ _ _) ?_ rfl
   refine FA 2 1000 rfl rfl (M8 _) ?_
   exact AM rfl rfl (.tmp (kn rfl) (.tmp (kn rfl) (.nil))) (Imp.refl _) rfl
  ·have hr':EX f=.error (k,li,co):=htab.trans hr
   rw[hr']
   refine AG ?_
   refine A6 ?_
   try refine A0 ?_
   refine A1 (AA rfl rfl rfl rfl rfl (A5 rfl rfl rfl (AP rfl (kn rfl) rfl ifc_28) .nil)) ?_
   try refine A0 ?_
   refine BD ?_
   try refine A0 ?_
   refine A1 (AA rfl rfl rfl rfl rfl (AE rfl rfl rfl rfl rfl (AE rfl rfl rfl rfl rfl .nil))) ?_
   try refine A0 ?_
   exact AM rfl rfl (.tmp (kn rfl) (.tmp (kn rfl) (.nil))) (Imp.refl _) rfl
abbrev MgV:=Mg×Value
def mgO(g:MgV):List Dat:=[.cell (.string (str g.1.name)),.orow 61 9 g.1.fields.length g.2 (g.1.fields.flatMap fdD),.row 1 g.1.oneofs.length (g.1.oneofs.flatMap textDats)]
theorem Q1R(g:MgV):(mgO g).length=3:=rfl
def wiD(pc:Value)(w:Wish):List Dat:=[.fn 88 [.ptr 88 [.cell pc],.ptr 3 [.cell (.int .i64 (w.msg:Int))],.ptr 210 w.fld.dats]]
theorem Q6s(pc:Value)(w:Wish):(wiD pc w).length=1:=rfl
abbrev Q6A(L:List Ty)(nm ne:List (List UInt8)):List IV:=[.part (.one (Q3K L)),.part (.one (.row 1 nm.length (nm.flatMap textDats))),.part (.one (.row 1 ne.length (ne.flatMap textDats))),.own 1001,.own 1002,.own 1003]
abbrev coB(L:List Ty)(nm ne:List (List UInt8)):BL:=[(1000,⟨95,Q6A L nm ne⟩)]
abbrev coR(pc:Value)(A:List MgV)(E:List En)(W:List Wish):RL:=[(1001,⟨2000000+71,3,A.length,A.flatMap mgO,false⟩),(1002,⟨74,3,E.length,E.flatMap enD,false⟩),(1003,⟨142,1,W.length,W.flatMap (wiD pc),false⟩)]
abbrev pcV(g:Nat):Value:=.pointer (some ⟨g,0,none⟩)
abbrev At(g:Nat)(M:Nat->Nat):Prop:=M 1000=g
def CY(er:Nat->Er)(g:Nat)(L:List Ty)(nm ne:List (List UInt8))(r:Except Flt Cst)(y:IV)(B1:BL)(R1:RL)(p1:List (Nat×Value)):Prop:=
 B1=coB L nm ne/\p1=[]/\((∃ s A,r=.ok s/\y=.part IS/\A.map (·.1)=s.msgs/\R1=coR (pcV g) A s.enums s.later) \/ ∃ n l c A E W,r=.error (n,l,c)/\y=.part (.one (sfD l c (er n)))/\R1=coR (pcV g) A E W)
theorem CY.tidy{er:Nat->Er}{g:Nat}{L:List Ty}{nm ne:List (List UInt8)}{r:Except Flt Cst}{A:List MgV}{E:List En}{W:List Wish}(y:IV)(B1:BL)(R1:RL)(p1:List (Nat×Value))(h:CY er g L nm ne r y B1 R1 p1):NU (coB L nm ne) (coR (pcV g) A E W) y B1 R1 p1:=by
 obtain⟨rfl,rfl,⟨s,A',_,rfl,_,rfl⟩ | ⟨n,l,c,A',E',W',_,rfl,rfl⟩⟩:=h<;>exact⟨⟨rfl,rfl,rfl,rfl⟩,fun x hx=>(by cases hx)⟩
theorem WS{vs:List Val}{i:Nat}{v:Val}{z:Option Flt}(hv:vs[i]?=some v)(hz:z=DX (vs.take i) (vs.drop i))(h1:Q29 (vs.take i) v=false)(h2:i<40):z=DX (vs.take (i+1)) (vs.drop (i+1)):=by
 have hl:i<vs.length:=(List.getElem?_eq_some_iff.1 hv).1
 rw[hz,G8 hv,DX,if_neg (by rw[h1];decide),if_neg (by rw[List.length_take];omega),List.take_add_one,hv]
 rfl
theorem YP{vs:List Val}{i:Nat}{v:Val}{z:Option Flt}(hv:vs[i]?=some v)(hz:z=DX (vs.take i) (vs.drop i))(h1:Q29 (vs.take i) v=true):z=some (11,v.line,v.col):=by
 rw[hz,G8 hv,DX,if_pos h1]
theorem VT{vs:List Val}{i:Nat}{v:Val}{z:Option Flt}(hv:vs[i]?=some v)(hz:z=DX (vs.take i) (vs.drop i))(h1:Q29 (vs.take i) v=false)(h2:40<=i):z=some (3,v.line,v.col):=by
 have hl:i<vs.length:=(List.getElem?_eq_some_iff.1 hv).1
 rw[hz,G8 hv,DX,if_neg (by rw[h1];decide),if_pos (by rw[List.length_take];omega)]
theorem Q5G(a:List Val)(v:Val):Q29 a v=((a.map (·.name)).any (fun y=>decide (y=v.name))||(a.map (·.number)).any (fun y=>decide (y=v.number))):=by
 unfold Q29
 induction a with
 | nil=>rfl
 | cons x a ih=>
  rw[List.any_cons,ih,List.map_cons,List.map_cons,List.any_cons,List.any_cons]
  cases decide (x.name=v.name)<;>cases decide (x.number=v.number)<;>simp
theorem Q0W{full:List UInt8}{e:Enm}(h1:e.vals≠[])(h2:∀ v,e.vals[0]?=some v->v.number=0):enumM full e=match DX [] e.vals with | some x=>.error x | none=>.ok ⟨full,e.vals.map (·.name),e.vals.map (·.number)⟩:=by
 unfold enumM
 cases hv:e.vals with
 | nil=>exact absurd hv h1
 | cons v vs=>
  rw[hv]at h2
  dsimp only
  rw[if_neg (fun h=>h (h2 v rfl))]
  rfl
def addE(s:Cst)(r:Except Flt En):Except Flt Cst:=match r with | .error x=>.error x | .ok y=>.ok { s with enums:=s.enums++[y] }
set_option maxHeartbeats 4000000 in
theorem Q6S(er:Nat->Er)(g:Nat)(L:List Ty)(nm ne:List (List UInt8))(hne:ne.length<=1000)(A:List MgV)(s:Cst)(hA:A.map (·.1)=s.msgs)(full:List UInt8)(hfull:ne[s.enums.length]?=some full)(e:Enm)(hel:e.vals.length<=100000000000)(hnl:∀ v∈e.vals,v.name.length<=140737488351232):
  EGp Tryz.prog (gC er) 52 [.box 1000 0,.part (.many e.dats)] (coB L nm ne) (coR (pcV g) A s.enums s.later) [] (At g) (CY er g L nm ne (addE s (enumM full e))):=by
 have hsl:s.enums.length<ne.length:=(List.getElem?_eq_some_iff.1 hfull).1
 refine GY 101 Tryz.func52 rfl rfl rfl fun w D bor mb hpre=>?_
 try refine A0 ?_
 refine A8 ?_
 refine DZ 3 rfl rfl rfl rfl (kn rfl) rfl rfl rfl rfl ?_
 refine AG ?_
 refine A6 ?_
 try refine A0 ?_
 have hhead:∀ b:Bool,(decide ((e.vals.length:Int)=0)=b)->b=decide (e.vals=[]):=fun b h=>by
  rw[<- h]
  cases e.vals<;>simp
  omega
 by_cases hv0:e.vals=[]
 ·have hr:enumM full e=.error (9,e.line,e.col):=by
   unfold enumM
   rw[hv0]
  have hlen:(e.vals.length:Int)=0:=by rw[hv0];rfl
  rw[hr]
  refine A1 (A5 rfl rfl rfl (A3 rfl (kn rfl) off_200_1) (A5 rfl rfl rfl (A4 rfl (kn rfl) rfl rfl one_198) (A5 rfl rfl rfl (CI rfl (kn rfl) sle_198) (A5 rfl rfl rfl (AN rfl (kn rfl) (kn rfl) (D3)) (AA rfl rfl rfl rfl rfl (Walk.gd _ rfl rfl rfl (fun h=>A3 rfl (kn rfl) off_200_1) (Walk.gd _ rfl rfl rfl (fun h=>A4 rfl (A9 rfl h) rfl rfl one_198) (Walk.gd _ rfl rfl rfl (fun h=>(show LStep _ _ _ _ _ _ (.ref (Val.dats ⟨[],0,0,0⟩)) from absurd (by rw[hlen]at h;exact h) (by decide))) (Walk.gd _ rfl rfl rfl (fun h=>AF rfl (A9 rfl h) off_206_1) (Walk.gd _ rfl rfl rfl (fun h=>AD rfl (A9 rfl h) one_3) (Walk.gd _ rfl rfl rfl (fun h=>AN rfl (A9 rfl h) (kn rfl) LI) (A5 rfl rfl rfl (EJ rfl (kn rfl) (fun hb=>A9 rfl hb)) .nil)))))))))))) ?_
  try refine A0 ?_
  refine AO rfl (fun h=>?_) (fun h=>?_)
  ·try refine A0 ?_
   refine A1 (A5 rfl rfl rfl (A3 rfl (kn rfl) off_200_2) (A5 rfl rfl rfl (A4 rfl (kn rfl) rfl rfl one_3) (A5 rfl rfl rfl (A3 rfl (kn rfl) off_200_3) (A5 rfl rfl rfl (A4 rfl (kn rfl) rfl rfl one_3) (A5 rfl rfl rfl (C4 rfl (kn rfl) (gc9 er) one_28) (A5 rfl rfl rfl (AY rfl (by kernel_rfl) (G2 _ e.line e.col (er 9)) ⟨(kn rfl),⟨(kn rfl),⟨(kn rfl),trivial⟩⟩⟩) (AE rfl rfl rfl rfl rfl .nil))))))) ?_
   try refine A0 ?_
   exact BS (coB L nm ne) (coR (pcV g) A s.enums s.later) ([]) rfl (.tmp (kn rfl) (.nil)) (Imp.refl _) ⟨s_b,trivial⟩ ⟨rfl,rfl,rfl,trivial⟩ trivial (⟨rfl,rfl,.inr ⟨9,e.line,e.col,A,s.enums,s.later,rfl,rfl,rfl⟩⟩)
  ·exfalso
   have h2:=(Bool.or_eq_false_iff.1 h).1
   rw[hlen]at h2
   exact absurd h2 (by decide)
 obtain⟨v0,hv⟩:∃ v,e.vals[0]?=some v:=⟨_,List.getElem?_eq_getElem (List.length_pos_iff.2 hv0)⟩
 have hlen:¬ (e.vals.length:Int)=0:=by have:=List.length_pos_iff.2 hv0;omega
 refine A1 (A5 rfl rfl rfl (A3 rfl (kn rfl) off_200_1) (A5 rfl rfl rfl (A4 rfl (kn rfl) rfl rfl one_198) (A5 rfl rfl rfl (CI rfl (kn rfl) sle_198) (A5 rfl rfl rfl (AN rfl (kn rfl) (kn rfl) D3) (AA rfl rfl rfl rfl rfl (Walk.gd _ rfl rfl rfl (fun h=>A3 rfl (kn rfl) off_200_1) (Walk.gd _ rfl rfl rfl (fun h=>A4 rfl (A9 rfl h) rfl rfl one_198) (Walk.gd _ rfl rfl rfl (fun h=>BO rfl (A9 rfl h) (kn rfl) (by omega) hv Val.dats_len sle_198 esz_198 rfl) (Walk.gd _ rfl rfl rfl (fun h=>AF rfl (A9 rfl h) off_206_1) (Walk.gd _ rfl rfl rfl (fun h=>AD rfl (A9 rfl h) one_3) (Walk.gd _ rfl rfl rfl (fun h=>AN rfl (A9 rfl h) (kn rfl) LI) (A5 rfl rfl rfl (EJ rfl (kn rfl) (fun hb=>A9 rfl hb)) .nil)))))))))))) ?_
 try refine A0 ?_
 refine AO rfl (fun h=>?_) (fun h=>?_)
 ·have hn:v0.number≠0:=fun e0=>by simp[e0]at h;exact hv0 h
  have hr:enumM full e=.error (9,e.line,e.col):=by
   unfold enumM
   cases hvs:e.vals with
   | nil=>exact absurd hvs hv0
   | cons v vs=>
    rw[hvs]at hv
    obtain rfl:=Option.some.inj hv
    dsimp only
    rw[if_pos hn]
  rw[hr]
  try refine A0 ?_
  refine A1 (A5 rfl rfl rfl (A3 rfl (kn rfl) off_200_2) (A5 rfl rfl rfl (A4 rfl (kn rfl) rfl rfl one_3) (A5 rfl rfl rfl (A3 rfl (kn rfl) off_200_3) (A5 rfl rfl rfl (A4 rfl (kn rfl) rfl rfl one_3) (A5 rfl rfl rfl (C4 rfl (kn rfl) (gc9 er) one_28) (A5 rfl rfl rfl (AY rfl (by kernel_rfl) (G2 _ e.line e.col (er 9)) ⟨(kn rfl),⟨(kn rfl),⟨(kn rfl),trivial⟩⟩⟩) (AE rfl rfl rfl rfl rfl .nil))))))) ?_
  try refine A0 ?_
  exact BS (coB L nm ne) (coR (pcV g) A s.enums s.later) ([]) rfl (.tmp (kn rfl) (.nil)) (Imp.refl _) ⟨s_b,trivial⟩ ⟨rfl,rfl,rfl,trivial⟩ trivial (⟨rfl,rfl,.inr ⟨9,e.line,e.col,A,s.enums,s.later,rfl,rfl,rfl⟩⟩)
 have hn:v0.number=0:=by
  simp[hlen]at h
  exact h.2
 have hr:=Q0W (full:=full) hv0 fun v h1=>by rw[hv]at h1;obtain rfl:=Option.some.inj h1;exact hn
 try refine A0 ?_
 refine LS 13 5 ([(38,_),(0,.box 1000 0),(3,.box 3 0)]) mixed (by kernel_rfl) rfl rfl rfl rfl rfl zr_74 rfl rfl rfl rfl (AA rfl rfl rfl rfl rfl (A5 rfl rfl rfl (AL rfl (kn rfl)) (A5 rfl rfl rfl (A3 rfl (kn rfl) off_95_2) (A5 rfl rfl rfl (A4 rfl (kn rfl) rfl rfl one_54) (AA rfl rfl rfl rfl rfl (A5 rfl rfl rfl (AL rfl (kn rfl)) (A5 rfl rfl rfl (A3 rfl (kn rfl) off_95_3) (A5 rfl rfl rfl (A3 rfl (kn rfl) off_26_1) (A5 rfl rfl rfl (A4 rfl (kn rfl) rfl rfl one_24) (A5 rfl rfl rfl (GX rfl (kn rfl) rfl sle_24) (A5 rfl rfl rfl (BO rfl (kn rfl) (kn rfl) (by omega) hfull DT sle_54 esz_54 rfl) (A5 rfl rfl rfl (AD rfl (kn rfl) one_9) (A5 rfl rfl rfl (B9 (ds:=[_,_,_]) [(0,_)] rfl ⟨rfl,(kn rfl),trivial⟩ rfl pl_74 zr_74 (fun w D=>.cons (.cell _) (.cons (.cell _) (.cons (.cell _) (.nil _ _)))) rfl) .nil))))))))))))) ⟨.inl ⟨rfl,rfl⟩,.inr ⟨rfl,rfl⟩,.inr ⟨rfl,rfl⟩,trivial⟩ ?_
 refine AI rfl rfl rfl (kn rfl) rfl (kn rfl) rfl rfl sz_74 ?_
 refine A6 ?_
 try refine A0 ?_
 refine BI 5 1 1010 9 1 rfl rfl rfl rfl rfl ?_
 refine BI 5 2 1011 3 1 rfl rfl rfl rfl rfl ?_
 refine A1 (A5 rfl rfl rfl (A3 rfl (kn rfl) off_200_1) (A5 rfl rfl rfl (A4 rfl (kn rfl) rfl rfl one_198) (A5 rfl rfl rfl (CI rfl (kn rfl) sle_198) (AA rfl rfl rfl rfl rfl .nil)))) ?_
 try refine A0 ?_
 refine CB (ι:={ i:Nat // i<=e.vals.length/\i<=40/\DX [] e.vals=DX (e.vals.take i) (e.vals.drop i) })
  (fun i=>[(0,.box 1000 0),(5,.box 5 0),(40,.part (.one (.row 4 e.vals.length (e.vals.flatMap Val.dats)))),(41,.is (.int .i64 (e.vals.length:Int))),(42,.is (.int .i64 (i.1:Int)))])
  (fun _=>[(5,⟨74,[.is (.string (str full)),.own 1010,.own 1011]⟩),(1000,⟨95,Q6A L nm ne⟩)])
  (fun i=>[(1010,⟨9,1,((e.vals.take i.1).map (·.name)).length,((e.vals.take i.1).map (·.name)).flatMap textDats,false⟩),(1011,⟨3,1,((e.vals.take i.1).map (·.number)).length,((e.vals.take i.1).map (·.number)).flatMap GP,false⟩),(1001,⟨2000000+71,3,A.length,A.flatMap mgO,false⟩),(1002,⟨74,3,s.enums.length,s.enums.flatMap enD,false⟩),(1003,⟨142,1,s.later.length,s.later.flatMap (wiD (pcV g)),false⟩)]) (fun i=>e.vals.length-i.1)
  ⟨0,by omega,by omega,rfl⟩
  (fun K=>B8 ⟨s_t,s_t,s_t,s_t,s_t,trivial⟩ ⟨s_b,s_b,trivial⟩ ⟨rfl,rfl,rfl,rfl,rfl,trivial⟩) ?_
 rintro⟨i,hi,hi40,hw⟩
 dsimp only at hi hi40 hw ⊢
 have htl:(e.vals.take i).length=i:=by rw[List.length_take];omega
 have htn:((e.vals.take i).map (·.name)).length=i:=by rw[List.length_map,htl]
 have htm:((e.vals.take i).map (·.number)).length=i:=by rw[List.length_map,htl]
 try refine A0 ?_
 refine A1 (A5 rfl rfl rfl (AN rfl (kn rfl) (kn rfl) CP) .nil) ?_
 try refine A0 ?_
 refine AO rfl (fun h=>?_) (fun h=>?_)
 ·have hlt:i<e.vals.length:=by have:=of_decide_eq_true h;omega
  obtain⟨v,hvi⟩:∃ v,e.vals[i]?=some v:=⟨_,List.getElem?_eq_getElem hlt⟩
  try refine A0 ?_
  refine A8 ?_
  refine AJ ?_
  refine AB (BO rfl (kn rfl) (kn rfl) (by omega) hvi Val.dats_len sle_198 esz_198 rfl) ?_
  refine AB (BQ rfl (kn rfl) agg_206 sz_206) ?_
  refine AS 7 [.is (.string ⟨#[]⟩),.is (.int .i64 0),.is (.int .i64 0),.is (.int .i64 0)] rfl rfl rfl rfl zr_206 (fun w D M V=>⟨rfl,fun j x v h1 h2=>AR _ h1 h2 rfl⟩) rfl rfl rfl rfl ?_
  refine AG ?_
  refine AI rfl rfl rfl (kn rfl) rfl (kn rfl) rfl rfl sz_206 ?_
  refine A6 ?_
  try refine A0 ?_
  refine A1 (A5 rfl rfl rfl (A3 rfl (kn rfl) off_74_1) (A5 rfl rfl rfl (A4 rfl (kn rfl) rfl rfl one_54) (A5 rfl rfl rfl (A3 rfl (kn rfl) off_206_0) (A5 rfl rfl rfl (A4 rfl (kn rfl) rfl rfl one_9) (A5 rfl rfl rfl (Q9 rfl (by kernel_rfl) (XV _ ((e.vals.take i).map (·.name)) (by omega) v.name) (KnV.shows ⟨.inr ⟨_,_,kn rfl,rfl,rfl⟩,.inl (kn rfl),trivial⟩) (Far.is _)) (AA rfl rfl rfl rfl rfl (Walk.gd _ rfl rfl rfl (fun h=>A3 rfl (kn rfl) off_74_2) (Walk.gd _ rfl rfl rfl (fun h=>A4 rfl (A9 rfl h) rfl rfl one_72) (Walk.gd _ rfl rfl rfl (fun h=>A3 rfl (kn rfl) off_206_1) (Walk.gd _ rfl rfl rfl (fun h=>A4 rfl (A9 rfl h) rfl rfl one_3) (Walk.gd _ rfl rfl rfl (fun h=>Q9 rfl (by kernel_rfl) (Q2y _ ((e.vals.take i).map (·.number)) (by omega) v.number) (KnV.shows ⟨.inr ⟨_,_,A9 rfl h,rfl,rfl⟩,.inl (A9 rfl h),trivial⟩) (Far.is _)) (A5 rfl rfl rfl (EJ rfl (kn rfl) (fun hb=>A9 rfl hb)) .nil)))))))))))) ?_
  try refine A0 ?_
  rw[<- Q5G]
  refine AO rfl (fun h1=>?_) (fun h1=>?_)
  ·rw[hr,YP hvi hw h1]
   try refine A0 ?_
   refine A1 (A5 rfl rfl rfl (A3 rfl (kn rfl) off_206_2) (A5 rfl rfl rfl (A4 rfl (kn rfl) rfl rfl one_3) (A5 rfl rfl rfl (A3 rfl (kn rfl) off_206_3) (A5 rfl rfl rfl (A4 rfl (kn rfl) rfl rfl one_3) (A5 rfl rfl rfl (C4 rfl (kn rfl) (Q6z er) one_28) (A5 rfl rfl rfl (AY rfl (by kernel_rfl) (G2 _ v.line v.col (er 11)) ⟨(kn rfl),⟨(kn rfl),⟨(kn rfl),trivial⟩⟩⟩) (AE rfl rfl rfl rfl rfl .nil))))))) ?_
   try refine A0 ?_
   exact BS (coB L nm ne) (coR (pcV g) A s.enums s.later) ([]) rfl (.tmp (kn rfl) (.nil)) (Imp.refl _) ⟨s_b,trivial⟩ ⟨rfl,rfl,rfl,trivial⟩ trivial (⟨rfl,rfl,.inr ⟨11,v.line,v.col,A,s.enums,s.later,rfl,rfl,rfl⟩⟩)
  try refine A0 ?_
  refine A1 (AA rfl rfl rfl rfl rfl (A5 rfl rfl rfl (AN rfl (kn rfl) (kn rfl) D3) .nil)) ?_
  try refine A0 ?_
  refine AO rfl (fun h2=>?_) (fun h2=>?_)
  ·have h40:40<=i:=by have:=of_decide_eq_true h2;omega
   rw[hr,VT hvi hw h1 h40]
   try refine A0 ?_
   refine A1 (A5 rfl rfl rfl (A3 rfl (kn rfl) off_206_2) (A5 rfl rfl rfl (A4 rfl (kn rfl) rfl rfl one_3) (A5 rfl rfl rfl (A3 rfl (kn rfl) off_206_3) (A5 rfl rfl rfl (A4 rfl (kn rfl) rfl rfl one_3) (A5 rfl rfl rfl (C4 rfl (kn rfl) (gc3 er) one_28) (A5 rfl rfl rfl (AY rfl (by kernel_rfl) (G2 _ v.line v.col (er 3)) ⟨(kn rfl),⟨(kn rfl),⟨(kn rfl),trivial⟩⟩⟩) (AE rfl rfl rfl rfl rfl .nil))))))) ?_
   try refine A0 ?_
   exact BS (coB L nm ne) (coR (pcV g) A s.enums s.later) ([]) rfl (.tmp (kn rfl) (.nil)) (Imp.refl _) ⟨s_b,trivial⟩ ⟨rfl,rfl,rfl,trivial⟩ trivial (⟨rfl,rfl,.inr ⟨3,v.line,v.col,A,s.enums,s.later,rfl,rfl,rfl⟩⟩)
  have h40:i<40:=by have:=of_decide_eq_false h2;omega
  have hd1:((e.vals.take i).map (·.name)).flatMap textDats++textDats v.name=((e.vals.take (i+1)).map (·.name)).flatMap textDats:=by rw[List.take_add_one,hvi,Option.toList_some,List.map_append,List.flatMap_append];rfl
  have hd2:((e.vals.take i).map (·.number)).flatMap GP++GP v.number=((e.vals.take (i+1)).map (·.number)).flatMap GP:=by rw[List.take_add_one,hvi,Option.toList_some,List.map_append,List.flatMap_append];rfl
  have hl1:((e.vals.take i).map (·.name)).length+1=((e.vals.take (i+1)).map (·.name)).length:=by rw[List.length_map,List.length_map,List.length_take,List.length_take];omega
  have hl2:((e.vals.take i).map (·.number)).length+1=((e.vals.take (i+1)).map (·.number)).length:=by rw[List.length_map,List.length_map,List.length_take,List.length_take];omega
  try refine A0 ?_
  refine DP 6 mixed (by kernel_rfl) (A5 rfl rfl rfl (A3 rfl (kn rfl) off_74_1) (A5 rfl rfl rfl (A4 rfl (kn rfl) rfl rfl one_54) (A5 rfl rfl rfl (A3 rfl (kn rfl) off_206_0) (A5 rfl rfl rfl (A4 rfl (kn rfl) rfl rfl one_9) (A5 rfl rfl rfl (AY rfl (by kernel_rfl) (K4 _ v.name (hnl v (List.mem_of_getElem? hvi))) ⟨(kn rfl),trivial⟩) (A5 rfl rfl rfl (AC (ds:=[_]) [(0,_)] rfl ⟨rfl,(kn rfl),trivial⟩ rfl sl_54 sz_9 zr_9 (fun w D=>.cons (.cell _) (.nil _ _)) rfl rfl rfl rfl rfl) .nil)))))) ?_
  refine BV rfl rfl rfl rfl (kn rfl) rfl (kn rfl) sl_54 ap_54 rfl rfl (by omega) (by omega) ?_
  refine IU hl1 hd1 ?_
  refine AB (A3 rfl (kn rfl) off_74_1) ?_
  refine B6 rfl rfl rfl (kn rfl) rfl (kn rfl) rfl rfl sz_54 rfl ?_
  refine A6 ?_
  try refine A0 ?_
  refine A8 ?_
  refine AB (A3 rfl (kn rfl) off_74_2) ?_
  refine AB (A4 rfl (kn rfl) rfl rfl one_72) ?_
  refine AB (A3 rfl (kn rfl) off_206_1) ?_
  refine AB (A4 rfl (kn rfl) rfl rfl one_3) ?_
  refine AB (AC (ds:=[_]) [(0,_)] rfl ⟨rfl,(kn rfl),trivial⟩ rfl sl_72 sz_3 zr_3 (fun w D=>.cons (.cell _) (.nil _ _)) rfl rfl rfl rfl rfl) ?_
  refine BV rfl rfl rfl rfl (kn rfl) rfl (kn rfl) sl_72 ap_72 rfl rfl (by omega) (by omega) ?_
  refine IU hl2 hd2 ?_
  refine AB (A3 rfl (kn rfl) off_74_2) ?_
  refine B6 rfl rfl rfl (kn rfl) rfl (kn rfl) rfl rfl sz_72 rfl ?_
  refine A6 ?_
  try refine A0 ?_
  refine A1 (A5 rfl rfl rfl (AN rfl (kn rfl) (kn rfl) (BF (by first | omega | (dsimp only;omega)))) (AA rfl rfl rfl rfl rfl .nil)) ?_
  try refine A0 ?_
  refine BB ⟨i+1,by omega,by omega,WS hvi hw h1 h40⟩ (by dsimp only;omega) (fun K=>B8 ⟨s_t,s_t,s_t,s_t,s_t,trivial⟩ ⟨s_b,s_b,trivial⟩ ⟨rfl,rfl,rfl,rfl,rfl,trivial⟩)
 obtain rfl:i=e.vals.length:=by have:=of_decide_eq_false h;omega
 rw[hr,show DX [] e.vals=none by rw[hw,List.drop_length];rfl,List.take_length]
 refine BC 5 1 1010 rfl rfl rfl rfl rfl ?_
 refine BC 5 2 1011 rfl rfl rfl rfl rfl ?_
 have hd:s.enums.flatMap enD++enD ⟨full,e.vals.map (·.name),e.vals.map (·.number)⟩=(s.enums++[(⟨full,e.vals.map (·.name),e.vals.map (·.number)⟩:En)]).flatMap enD:=by rw[List.flatMap_append];simp
 have hl:s.enums.length+1=(s.enums++[(⟨full,e.vals.map (·.name),e.vals.map (·.number)⟩:En)]).length:=by rw[List.length_append];rfl
 try refine A0 ?_
 refine CD 8 mixed (by kernel_rfl) rfl rfl rfl rfl (kn rfl) (fun _ _ _ _ h=>h) (AA rfl rfl rfl rfl rfl (A5 rfl rfl rfl (AL rfl (kn rfl)) (A5 rfl rfl rfl (A3 rfl (kn rfl) off_95_3) (A5 rfl rfl rfl (A3 rfl (kn rfl) off_26_1) (A5 rfl rfl rfl (A4 rfl (kn rfl) rfl rfl one_24) (A5 rfl rfl rfl (AT (ds:=[_,_,_]) 3 rfl (kn rfl) rfl rfl agg_74 sz_74 rfl) (A5 rfl rfl rfl (AC (ds:=[_,_,_]) [(0,_)] rfl ⟨rfl,(kn rfl),trivial⟩ rfl sl_24 sz_74 zr_74 (fun w D=>.cons (.cell _) (.cons (.cell _) (.cons (.cell _) (.nil _ _)))) rfl rfl rfl rfl rfl) .nil))))))) ?_
 refine BV rfl rfl rfl rfl (kn rfl) rfl (kn rfl) sl_24 ap_24 rfl rfl (by omega) (by omega) ?_
 refine IU hl hd ?_
 refine AB (AL rfl (kn rfl)) ?_
 refine AB (A3 rfl (kn rfl) off_95_3) ?_
 refine AB (A3 rfl (kn rfl) off_26_1) ?_
 refine B6 rfl rfl rfl (kn rfl) rfl (kn rfl) rfl rfl sz_24 rfl ?_
 refine A6 ?_
 try refine A0 ?_
 refine A1 (AE rfl rfl rfl rfl rfl .nil) ?_
 try refine A0 ?_
 exact BS (coB L nm ne) (coR (pcV g) A (s.enums++[⟨full,e.vals.map (·.name),e.vals.map (·.number)⟩]) s.later) ([]) rfl (.tmp (kn rfl) (.nil)) (Imp.refl _) ⟨s_b,trivial⟩ ⟨rfl,rfl,rfl,trivial⟩ trivial (⟨rfl,rfl,.inl ⟨{ s with enums:=s.enums++[⟨full,e.vals.map (·.name),e.vals.map (·.number)⟩] },A,rfl,rfl,hA,rfl⟩⟩)
end Go.Proofs.YtgcphgdkddihcaaGreatDoor
