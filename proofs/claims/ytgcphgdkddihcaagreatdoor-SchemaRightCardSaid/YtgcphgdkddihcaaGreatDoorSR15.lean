/- Part 15. Conditions: as each theorem says. -/
import Derived.Test.YtgcphgdkddihcaaGreatDoorSR14
import Derived.Test.YtgcphgdkddihcaaGreatDoorProg
set_option maxRecDepth 100000
namespace Go.Proofs.YtgcphgdkddihcaaGreatDoor
open Go.RowKit
abbrev pD(l:List Tk)(q:Nat):List Dat:=[.row 5 l.length (l.flatMap tkD),.cell (.int .i64 (q:Int))]
abbrev pX(l:List Tk)(q:Nat):Bx:=⟨134,[.part (Q62 l),.is (.int .i64 (q:Int))]⟩
abbrev pB(l:List Tk)(q:Nat):BL:=[(1,pX l q)]
def ws:List (List UInt8):=[[115,121,110,116,97,120],[61],[59],[112,97,99,107,97,103,101],[109,101,115,115,97,103,101],[101,110,117,109],[111,110,101,111,102],[114,101,115,101,114,118,101,100],[114,101,112,101,97,116,101,100],[111,112,116,105,111,110,97,108],[109,97,112],[60],[62],[44],[91],[93],[112,97,99,107,101,100],[107,101,121],[116,114,117,101],[102,97,108,115,101],[123],[125],[45],[116,111],[109,97,120],[46]]
structure PTk (l:List Tk):Prop extends TksOk l where
 fit:∀ p t,t∈ws->(decide (((tkAt l p).1.k:Int)=3) || !decide ((tkAt l p).1.t=t)) = !tkIs l p (kindT t) t
 ne:∀ p,(tkAt l p).1.k=1->(tkAt l p).1.t≠[]
abbrev Er:=TypeId×Value
abbrev eV(x:Er):Value:=.iface x.1 x.2
abbrev gE(E8 E9:Er):List (Nat×List Value):=[(10,[eV E8]),(1,[eV E9])]
abbrev Q79(l:List Tk)(p:Nat)(v:Er):Dat:=.ifc 124 (.ptr 126 [.cell (.int .i64 ((tkAt l p).2.1:Int)),.cell (.int .i64 ((tkAt l p).2.2:Int)),   .cell (eV v)])
abbrev YK(l:List Tk)(p:Nat)(v:Er):Part:=.one (Q79 l p v)
abbrev IS:Part:=.one (.cell .nilIface)
theorem Q3(gls:List (Nat×List Value))(l:List Tk)(hl:TksOk l)(q n:Nat)(hq:q<=200000)(hn:n<=200000):ER Tryz.prog gls 127 (pD l q) [iP n] (Q5R (tkAt l (q+n))):=by
 refine B4 30 Tryz.func127 rfl rfl rfl fun w D bor mb=>?_
 try refine A0 ?_
 have hll:=hl.len
 refine A8 ?_
 refine AS 4 [.is (.int .i64 0),.is (.string ⟨#[]⟩),.is (.int .i64 0),.is (.int .i64 0),.is (.int .i64 0)] rfl rfl rfl rfl zr_128 (fun w D M V=>⟨rfl,fun j x v h1 h2=>AR _ h1 h2 rfl⟩) rfl rfl rfl rfl ?_
 refine A6 ?_
 try refine A0 ?_
 refine FI mixed (by kernel_rfl) (AA rfl rfl rfl rfl rfl (A5 rfl rfl rfl (AW rfl (kn rfl)) (A5 rfl rfl rfl (AF rfl (kn rfl) off_134_1) (A5 rfl rfl rfl (AD rfl (kn rfl) one_3) (AA rfl rfl rfl rfl rfl (A5 rfl rfl rfl (AN rfl (kn rfl) (kn rfl) (BF (by first | omega | (dsimp only;omega)))) (AA rfl rfl rfl rfl rfl (A5 rfl rfl rfl (AW rfl (kn rfl)) (A5 rfl rfl rfl (AF rfl (kn rfl) off_134_0) (A5 rfl rfl rfl (AD rfl (kn rfl) one_84) (A5 rfl rfl rfl (CI rfl (kn rfl) sle_84) (A5 rfl rfl rfl (AN rfl (kn rfl) (kn rfl) IJ) .nil)))))))))))) ?_
 try refine A0 ?_
 refine AO rfl (fun h=>?_) (fun h=>?_)
 ·have h1:tkAt l (q+n)=tk0:=by
   have:=of_decide_eq_true h
   unfold tkAt
   rw[List.getD_eq_getElem?_getD,List.getElem?_eq_none (by omega)]
   rfl
  rw[h1]
  try refine A0 ?_
  refine A8 ?_
  refine AB (B9 (ds:=[_,_,_,_,_]) [] rfl trivial rfl pl_128 zr_128 (fun w D=>.cons (.cell _) (.cons (.cell _) (.cons (.cell _) (.cons (.cell _) (.cons (.cell _) (.nil _ _)))))) rfl) ?_
  refine AI rfl rfl rfl (kn rfl) rfl (kn rfl) rfl rfl sz_128 ?_
  refine A6 ?_
  try refine A0 ?_
  exact A7 ([]) ([]) rfl (.cell rfl rfl rfl agg_128 sz_128 rfl (.nil)) (Imp.refl _) trivial trivial (⟨rfl,rfl,rfl⟩)
 have h1:l[q+n]?=some (tkAt l (q+n)):=IN (by have:=of_decide_eq_false h;omega)
 try refine A0 ?_
 refine QX [(4,_)] mixed (by kernel_rfl) (WalkM.op rfl rfl rfl (C8 rfl (kn rfl)) (WalkM.op rfl rfl rfl (AW rfl (kn rfl)) (WalkM.op rfl rfl rfl (AF rfl (kn rfl) off_134_0) (WalkM.op rfl rfl rfl (AD rfl (kn rfl) one_84) (WalkM.op rfl rfl rfl (C8 rfl (kn rfl)) (WalkM.op rfl rfl rfl (AW rfl (kn rfl)) (WalkM.op rfl rfl rfl (AF rfl (kn rfl) off_134_1) (WalkM.op rfl rfl rfl (AD rfl (kn rfl) one_3) (WalkM.op rfl rfl rfl (C8 rfl (kn rfl)) (WalkM.op rfl rfl rfl (AN rfl (kn rfl) (kn rfl) (BF (by first | omega | (dsimp only;omega)))) (WalkM.op rfl rfl rfl (BO rfl (kn rfl) (kn rfl) (by omega) h1 Q5B sle_84 esz_84 rfl) (WalkM.op rfl rfl rfl (BQ rfl (kn rfl) agg_128 sz_128) (WalkM.stw rfl rfl rfl (kn rfl) rfl rfl (kn rfl) rfl rfl rfl sz_128 (WalkM.nil)))))))))))))) rfl ?_
 try refine A0 ?_
 exact A7 ([]) ([]) rfl (.cell rfl rfl rfl agg_128 sz_128 rfl (.nil)) (Imp.refl _) trivial trivial (⟨rfl,rfl,rfl⟩)
theorem NV(gls:List (Nat×List Value))(l:List Tk)(p:Nat)(v:Er):EF Tryz.prog gls 126 [tkP (tkAt l p),   .one (.cell (eV v))] (.part (YK l p v)):=by
 refine AU 13 Tryz.func126 rfl rfl rfl fun w D=>?_
 try refine A0 ?_
 refine A8 ?_
 refine DZ 2 rfl rfl rfl rfl (kn rfl) rfl rfl rfl rfl ?_
 refine AG ?_
 refine A6 ?_
 try refine A0 ?_
 refine A8 ?_
 refine AB (A3 rfl (kn rfl) off_128_3) ?_
 refine AB (A4 rfl (kn rfl) rfl rfl one_3) ?_
 refine AB (A3 rfl (kn rfl) off_128_4) ?_
 refine AB (A4 rfl (kn rfl) rfl rfl one_3) ?_
 refine AJ ?_
 refine AB (B9 (ds:=[_,_,_]) [(0,_),(1,_),(2,_)] rfl ⟨rfl,(kn rfl),⟨rfl,(kn rfl),⟨rfl,(kn rfl),trivial⟩⟩⟩ rfl pl_126 zr_126 (fun w D=>.cons (.cell _) (.cons (.cell _) (.cons (.cell _) (.nil _ _)))) rfl) ?_
 refine DZ 11 rfl rfl rfl rfl (kn rfl) rfl rfl rfl rfl ?_
 refine FA 11 11 rfl rfl rfl ?_
 refine ES rfl rfl rfl (WG rfl (kn rfl) (by kernel_rfl)) ?_
 refine AG ?_
 refine A6 ?_
 try refine A0 ?_
 exact AM rfl rfl (.tmp (kn rfl) (.nil)) (Imp.refl _) rfl
theorem GF(E8 E9:Er)(l:List Tk)(hl:TksOk l)(q:Nat)(hq:q<=200000):EG Tryz.prog (gE E8 E9) 130 [.box 1 0] (pB l q) [] (fun y B1 R1=>y=.part (YK l q E9)/\B1=pB l q/\R1=[]):=by
 refine B4 7 Tryz.func130 rfl rfl rfl fun w D bor mb=>?_
 try refine A0 ?_
 refine A1 (AE rfl rfl rfl rfl rfl .nil) ?_
 try refine A0 ?_
 refine FI mixed (by kernel_rfl) (AA rfl rfl rfl rfl rfl (A5 rfl rfl rfl (QH rfl (by kernel_rfl) (Q3 _ l hl q 0 hq (by omega)) (kn rfl) rfl rfl ⟨kn rfl,trivial⟩) (A5 rfl rfl rfl (C4 rfl (kn rfl) (List.mem_cons_of_mem _ (List.mem_singleton.2 rfl)) one_28) (A5 rfl rfl rfl (AY rfl (by kernel_rfl) (NV _ l q E9) ⟨(kn rfl),⟨(kn rfl),trivial⟩⟩) (AE rfl rfl rfl rfl rfl .nil))))) ?_
 try refine A0 ?_
 exact A7 (pB l q) ([]) rfl (.tmp (kn rfl) (.nil)) (Imp.refl _) ⟨s_b,trivial⟩ trivial (⟨rfl,rfl,rfl⟩)
def EN(l:List Tk):List (List UInt8)->Nat->Bool
 | [],_=>true
 | t::ts,q=>tkIs l q (kindT t) t&&EN l ts (q+1)
theorem Q47(gls:List (Nat×List Value))(l:List Tk)(hl:PTk l)(ts:List (List UInt8))(hts:ts.length<=100)(hws:∀ t∈ts,t∈ws)(q:Nat)(hq:q<=150000):
  EG Tryz.prog gls 76 [.box 1 0,.part (Q1c ts)] (pB l q) [] (fun y B1 R1=>y=.part (bP (EN l ts q))/\B1=pB l (if EN l ts q then q+ts.length else q)/\R1=[]):=by
 refine B4 37 Tryz.func76 rfl rfl rfl fun w D bor mb=>?_
 try refine A0 ?_
 refine A1 (AE rfl rfl rfl rfl rfl .nil) ?_
 try refine A0 ?_
 refine A1 (AA rfl rfl rfl rfl rfl (A5 rfl rfl rfl (CI rfl (kn rfl) sle_54) (AA rfl rfl rfl rfl rfl .nil))) ?_
 try refine A0 ?_
 refine CB (ι:={ i:Nat // i<=ts.length/\EN l ts q=EN l (ts.drop i) (q+i) })
  (fun i=>[(0,.box 1 0),(1,.part (Q1c ts)),(8,.part (Q1c ts)),(9,.is (.int .i64 (ts.length:Int))),(10,.is (.int .i64 (i.1:Int)))])
  (fun _=>pB l q) (fun _=>[]) (fun i=>ts.length-i.1) ⟨0,by omega,by simp⟩
  (fun K=>B8 ⟨s_t,s_t,s_t,s_t,s_t,trivial⟩ ⟨s_b,trivial⟩ trivial) ?_
 rintro⟨i,hi,hw⟩
 dsimp only at hi hw ⊢
 try refine A0 ?_
 refine A1 (A5 rfl rfl rfl (AN rfl (kn rfl) (kn rfl) CP) .nil) ?_
 try refine A0 ?_
 refine AO rfl (fun h=>?_) (fun h=>?_)
 ·have hlt:i<ts.length:=by have:=of_decide_eq_true h;omega
  obtain⟨t,ht⟩:∃ t,ts[i]?=some t:=⟨_,List.getElem?_eq_getElem hlt⟩
  have hd:ts.drop i=t::ts.drop (i+1):=by
   rw[List.drop_eq_getElem_cons hlt]
   congr 1
   rw[List.getElem?_eq_getElem hlt]at ht
   exact Option.some.inj ht
  have hfit:=hl.fit (q+i) t (hws t (List.mem_of_getElem? ht))
  rw[hd,EN]at hw
  try refine A0 ?_
  refine A1 (AA rfl rfl rfl rfl rfl (A5 rfl rfl rfl (BO rfl (kn rfl) (kn rfl) (by omega) ht DT sle_54 esz_54 rfl) (A5 rfl rfl rfl (AD rfl (kn rfl) one_9) (AE rfl rfl rfl rfl rfl (AE rfl rfl rfl rfl rfl .nil))))) ?_
  try refine A0 ?_
  refine A8 ?_
  refine AJ ?_
  refine AJ ?_
  refine AB (QH rfl (by kernel_rfl) (Q3 _ l hl.toTksOk q i (by omega) (by omega)) (kn rfl) rfl rfl ⟨kn rfl,trivial⟩) ?_
  refine AS 7 [.is (.int .i64 0),.is (.string ⟨#[]⟩),.is (.int .i64 0),.is (.int .i64 0),.is (.int .i64 0)] rfl rfl rfl rfl zr_128 (fun w D M V=>⟨rfl,fun j x v h1 h2=>AR _ h1 h2 rfl⟩) rfl rfl rfl rfl ?_
  refine AI rfl rfl rfl (kn rfl) rfl (kn rfl) rfl rfl sz_128 ?_
  refine A6 ?_
  try refine A0 ?_
  refine A1 (A5 rfl rfl rfl (A3 rfl (kn rfl) off_128_0) (A5 rfl rfl rfl (A4 rfl (kn rfl) rfl rfl one_3) (A5 rfl rfl rfl (AN rfl (kn rfl) (kn rfl) D3) (AA rfl rfl rfl rfl rfl (Walk.gd _ rfl rfl rfl (fun h=>A3 rfl (kn rfl) off_128_1) (Walk.gd _ rfl rfl rfl (fun h=>A4 rfl (A9 rfl h) rfl rfl one_9) (Walk.gd _ rfl rfl rfl (fun h=>C8 rfl (kn rfl)) (Walk.gd _ rfl rfl rfl (fun h=>AN rfl (A9 rfl h) (A9 rfl h) (RT)) (A5 rfl rfl rfl (EJ rfl (kn rfl) (fun hb=>A9 rfl hb)) .nil))))))))) ?_
  try refine A0 ?_
  refine AO rfl (fun h1=>?_) (fun h1=>?_)
  ·have h2:tkIs l (q+i) (kindT t) t=false:=J0 (hfit.symm.trans h1)
   have h3:EN l ts q=false:=by rw[hw,h2];rfl
   try refine A0 ?_
   refine A1 (AE rfl rfl rfl rfl rfl .nil) ?_
   try refine A0 ?_
   exact A7 (pB l q) ([]) rfl (.tmp (kn rfl) (.nil)) (Imp.refl _) ⟨s_b,trivial⟩ trivial (⟨by rw[h3];rfl,by rw[h3];rfl,rfl⟩)
  have h2:tkIs l (q+i) (kindT t) t=true:=IB (hfit.symm.trans h1)
  rw[h2,Bool.true_and]at hw
  try refine A0 ?_
  refine A1 (A5 rfl rfl rfl (AN rfl (kn rfl) (kn rfl) (BF (by first | omega | (dsimp only;omega)))) (AA rfl rfl rfl rfl rfl .nil)) ?_
  try refine A0 ?_
  refine BB ⟨i+1,by omega,hw⟩ (by dsimp only;omega) (fun K=>B8 ⟨s_t,s_t,s_t,s_t,s_t,trivial⟩ ⟨s_b,trivial⟩ trivial)
 obtain rfl:i=ts.length:=by have:=of_decide_eq_false h;omega
 rw[List.drop_length,EN]at hw
 try refine A0 ?_
 refine A8 ?_
 refine AJ ?_
 refine AB (AL rfl (kn rfl)) ?_
 refine AB (A3 rfl (kn rfl) off_134_1) ?_
 refine AB (A4 rfl (kn rfl) rfl rfl one_3) ?_
 refine AJ ?_
 refine AB (CI rfl (kn rfl) sle_54) ?_
 refine AB (AN rfl (kn rfl) (kn rfl) (BF (by first | omega | (dsimp only;omega)))) ?_
 refine AB (AL rfl (kn rfl)) ?_
 refine AB (A3 rfl (kn rfl) off_134_1) ?_
 refine C3 rfl rfl rfl (kn rfl) rfl (kn rfl) rfl rfl sz_3 rfl ?_
 refine A6 ?_
 try refine A0 ?_
 refine A1 (AE rfl rfl rfl rfl rfl .nil) ?_
 try refine A0 ?_
 exact A7 (pB l (q+ts.length)) ([]) rfl (.tmp (kn rfl) (.nil)) (Imp.refl _) ⟨s_b,trivial⟩ trivial (⟨by rw[hw];rfl,by rw[hw];rfl,rfl⟩)
theorem PY.tidy{l:List Tk}{q z:Nat}{p:Part}{y:IV}{B1:BL}{R1:RL}(h1:y=.part p)(h2:B1=pB l z)(h3:R1=[]):H0 (pB l q) [] y B1 R1:=by
 subst h1 h2 h3
 exact⟨rfl,rfl,rfl,rfl⟩
theorem CR(gls:List (Nat×List Value))(l:List Tk)(hl:PTk l)(t:List UInt8)(k:Nat)(hk:kindT t=k)(hws:t∈ws)(q:Nat)(hq:q<=150000):
  EG Tryz.prog gls 76 [.box 1 0,.part (Q1c [t])] (pB l q) [] (fun y B1 R1=>y=.part (bP (tkIs l q k t))/\B1=pB l (if tkIs l q k t then q+1 else q)/\R1=[]):=by
 have h:=Q47 gls l hl [t] (by simp) (by simpa using hws) q hq
 have e:EN l [t] q=tkIs l q k t:=by rw[EN,EN,hk,Bool.and_true]
 rw[e]at h
 exact h
theorem K4(gls:List (Nat×List Value))(t:List UInt8)(ht:t.length<=140737488351232):EF Tryz.prog gls 85 [sP t] (.part (sP t)):=fun w D vs _ _ hp=>by
 obtain⟨v,rfl,hv⟩:∃ v,vs=[v]/\v=.string (str t):=by
  match vs,hp with
  | [v],h=>exact⟨v,rfl,h.1.cell_eq⟩
 subst hv
 exact(Q2q w t ht).mono fun e w' ⟨h1,h2⟩=>⟨_,_,h1,rfl,h2,fun _ _=>.cell _⟩
def TY(l:List Tk)(E9:Er)(k q:Nat)(y:IV)(B1:BL)(R1:RL):Prop:=
 ((tkAt l q).1.k≠k/\y=.tup [tkP tk0,YK l q E9]/\B1=pB l q/\R1=[])\/((tkAt l q).1.k=k/\y=.tup [tkP (tkAt l q),IS]/\B1=pB l (q+1)/\R1=[])
theorem TY.tidy{l:List Tk}{E9:Er}{k q z:Nat}(y:IV)(B1:BL)(R1:RL)(h:TY l E9 k q y B1 R1):H0 (pB l z) [] y B1 R1:=by
 rcases h with⟨_,rfl,rfl,rfl⟩ | ⟨_,rfl,rfl,rfl⟩<;>exact⟨rfl,rfl,rfl,rfl⟩
theorem DB(E8 E9:Er)(l:List Tk)(hl:TksOk l)(q k:Nat)(hq:q<=150000):EG Tryz.prog (gE E8 E9) 125 [.box 1 0,.part (iP k)] (pB l q) [] (TY l E9 k q):=by
 refine B4 28 Tryz.func125 rfl rfl rfl fun w D bor mb=>?_
 try refine A0 ?_
 have htx:=hl.txt q
 refine A8 ?_
 refine AS 4 [.is (.int .i64 0),.is (.string ⟨#[]⟩),.is (.int .i64 0),.is (.int .i64 0),.is (.int .i64 0)] rfl rfl rfl rfl zr_128 (fun w D M V=>⟨rfl,fun j x v h1 h2=>AR _ h1 h2 rfl⟩) rfl rfl rfl rfl ?_
 refine AG ?_
 refine A6 ?_
 try refine A0 ?_
 refine A8 ?_
 refine AJ ?_
 refine AB (QH rfl (by kernel_rfl) (Q3 _ l hl q 0 (by omega) (by omega)) (kn rfl) rfl rfl ⟨kn rfl,trivial⟩) ?_
 refine AS 6 [.is (.int .i64 0),.is (.string ⟨#[]⟩),.is (.int .i64 0),.is (.int .i64 0),.is (.int .i64 0)] rfl rfl rfl rfl zr_128 (fun w D M V=>⟨rfl,fun j x v h1 h2=>AR _ h1 h2 rfl⟩) rfl rfl rfl rfl ?_
 refine AI rfl rfl rfl (kn rfl) rfl (kn rfl) rfl rfl sz_128 ?_
 refine A6 ?_
 try refine A0 ?_
 refine A1 (A5 rfl rfl rfl (A3 rfl (kn rfl) off_128_0) (A5 rfl rfl rfl (A4 rfl (kn rfl) rfl rfl one_3) (AA rfl rfl rfl rfl rfl (A5 rfl rfl rfl (AN rfl (kn rfl) (kn rfl) LI) .nil)))) ?_
 try refine A0 ?_
 refine AO rfl (fun h=>?_) (fun h=>?_)
 ·have h1:¬ (tkAt l q).1.k=k:=fun e=>by
   rw[<- e]at h
   simp at h
  try refine A0 ?_
  refine A8 ?_
  refine AB (B9 (ds:=[_,_,_,_,_]) [] rfl trivial rfl pl_128 zr_128 (fun w D=>.cons (.cell _) (.cons (.cell _) (.cons (.cell _) (.cons (.cell _) (.cons (.cell _) (.nil _ _)))))) rfl) ?_
  refine AJ ?_
  refine AH rfl rfl rfl rfl (by kernel_rfl) (GF E8 E9 l hl q (by omega)) ⟨rfl,trivial⟩ trivial ⟨(kn rfl),trivial⟩ (fun _ _ _ h=>PY.tidy h.1 h.2.1 h.2.2) ?_
  rintro _ _ _ ⟨rfl,rfl,rfl⟩
  refine AI rfl rfl rfl (kn rfl) rfl (kn rfl) rfl rfl sz_128 ?_
  refine AG ?_
  refine A6 ?_
  try refine A0 ?_
  exact A7 (pB l q) ([]) rfl (.cell rfl rfl rfl agg_128 sz_128 rfl (.tmp (kn rfl) (.nil))) (Imp.refl _) ⟨s_b,trivial⟩ trivial (.inl ⟨h1,rfl,rfl,rfl⟩)
 have h1:(tkAt l q).1.k=k:=by
  have h2:decide (((tkAt l q).1.k:Int)=(k:Int))=true:=IB h
  have:=of_decide_eq_true h2
  omega
 try refine A0 ?_
 refine A8 ?_
 refine AJ ?_
 refine AB (AL rfl (kn rfl)) ?_
 refine AB (A3 rfl (kn rfl) off_134_1) ?_
 refine AB (A4 rfl (kn rfl) rfl rfl one_3) ?_
 refine AB (AN rfl (kn rfl) (kn rfl) (BF (by first | omega | (dsimp only;omega)))) ?_
 refine AB (AL rfl (kn rfl)) ?_
 refine AB (A3 rfl (kn rfl) off_134_1) ?_
 refine C3 rfl rfl rfl (kn rfl) rfl (kn rfl) rfl rfl sz_3 rfl ?_
 refine A6 ?_
 try refine A0 ?_
 refine A8 ?_
 refine AB (A3 rfl (kn rfl) off_128_1) ?_
 refine AB (A4 rfl (kn rfl) rfl rfl one_9) ?_
 refine AB (AY rfl (by kernel_rfl) (K4 _ (tkAt l q).1.t (by omega)) ⟨(kn rfl),trivial⟩) ?_
 refine AB (A3 rfl (kn rfl) off_128_1) ?_
 refine C3 rfl rfl rfl (kn rfl) rfl (kn rfl) rfl rfl sz_9 rfl ?_
 refine A6 ?_
 try refine A0 ?_
 refine A8 ?_
 refine AB (AT (ds:=[_,_,_,_,_]) 5 rfl (kn rfl) rfl rfl agg_128 sz_128 rfl) ?_
 refine AI rfl rfl rfl (kn rfl) rfl (kn rfl) rfl rfl sz_128 ?_
 refine AG ?_
 refine A6 ?_
 try refine A0 ?_
 exact A7 (pB l (q+1)) ([]) rfl (.cell rfl rfl rfl agg_128 sz_128 rfl (.tmp (kn rfl) (.nil))) (Imp.refl _) ⟨s_b,trivial⟩ trivial (.inr ⟨h1,rfl,rfl,rfl⟩)
abbrev erv(E8 E9:Er)(b:Nat):Er:=if b=8 then E8 else E9
def PE(l:List Tk)(E8 E9:Er)(r:AZ Nat)(y:IV)(B1:BL)(R1:RL):Prop:=
 (∃ a b z,r=.error (a,b)/\y=.part (YK l a (erv E8 E9 b))/\B1=pB l z/\R1=[])\/(∃ z,r=.ok z/\y=.part IS/\B1=pB l z/\R1=[])
theorem PE.tidy{l:List Tk}{E8 E9:Er}{r:AZ Nat}{q:Nat}(y:IV)(B1:BL)(R1:RL)(h:PE l E8 E9 r y B1 R1):H0 (pB l q) [] y B1 R1:=by
 rcases h with⟨a,b,z,_,rfl,rfl,rfl⟩ | ⟨z,_,rfl,rfl,rfl⟩<;>exact⟨rfl,rfl,rfl,rfl⟩
theorem Q48(E8 E9:Er)(l:List Tk)(hl:PTk l)(ts:List (List UInt8))(hts:ts.length<=100)(hws:∀ t∈ts,t∈ws)(q:Nat)(hq:q<=120000):
  EG Tryz.prog (gE E8 E9) 78 [.box 1 0,.part (Q1c ts)] (pB l q) [] (PE l E8 E9 (EK l ts q)):=by
 refine B4 21 Tryz.func78 rfl rfl rfl fun w D bor mb=>?_
 try refine A0 ?_
 have hll:=hl.len
 refine A1 (AE rfl rfl rfl rfl rfl .nil) ?_
 try refine A0 ?_
 refine A1 (AA rfl rfl rfl rfl rfl (A5 rfl rfl rfl (CI rfl (kn rfl) sle_54) (AA rfl rfl rfl rfl rfl .nil))) ?_
 try refine A0 ?_
 refine CB (ι:={ i:Nat×Nat // i.1<=ts.length/\i.2<=120000+i.1/\EK l ts q=EK l (ts.drop i.1) i.2 })
  (fun i=>[(0,.box 1 0),(7,.part (Q1c ts)),(8,.is (.int .i64 (ts.length:Int))),(9,.is (.int .i64 (i.1.1:Int)))])
  (fun i=>pB l i.1.2) (fun _=>[]) (fun i=>ts.length-i.1.1) ⟨(0,q),by simp,by dsimp only;omega,rfl⟩
  (fun K=>B8 ⟨s_t,s_t,s_t,s_t,trivial⟩ ⟨s_b,trivial⟩ trivial) ?_
 rintro⟨⟨i,p⟩,hi,hp,hw⟩
 dsimp only at hi hp hw ⊢
 try refine A0 ?_
 refine A1 (A5 rfl rfl rfl (AN rfl (kn rfl) (kn rfl) CP) .nil) ?_
 try refine A0 ?_
 refine AO rfl (fun h=>?_) (fun h=>?_)
 ·have hlt:i<ts.length:=by have:=of_decide_eq_true h;omega
  obtain⟨t,ht⟩:∃ t,ts[i]?=some t:=⟨_,List.getElem?_eq_getElem hlt⟩
  have hd:ts.drop i=t::ts.drop (i+1):=by
   rw[List.drop_eq_getElem_cons hlt]
   congr 1
   rw[List.getElem?_eq_getElem hlt]at ht
   exact Option.some.inj ht
  rw[hd,EK]at hw
  try refine A0 ?_
  refine A1 (A5 rfl rfl rfl (BO rfl (kn rfl) (kn rfl) (by omega) ht DT sle_54 esz_54 rfl) (A5 rfl rfl rfl (AD rfl (kn rfl) one_9) (AE rfl rfl rfl rfl rfl .nil))) ?_
  try refine A0 ?_
  refine A8 ?_
  refine AJ ?_
  refine AJ ?_
  refine AB (AC (ds:=[_]) [(0,_)] rfl ⟨rfl,(kn rfl),trivial⟩ rfl sl_54 sz_9 zr_9 (fun w D=>.cons (.cell _) (.nil _ _)) rfl rfl rfl rfl rfl) ?_
  refine AH rfl rfl rfl rfl (by kernel_rfl) (CR _ l hl t _ rfl (hws t (List.mem_of_getElem? ht)) p (by omega)) ⟨rfl,trivial⟩ trivial ⟨(kn rfl),⟨(kn rfl),trivial⟩⟩ (fun _ _ _ h=>PY.tidy h.1 h.2.1 h.2.2) ?_
  rintro _ _ _ ⟨rfl,rfl,rfl⟩
  refine AB (DL rfl (kn rfl)) ?_
  refine A6 ?_
  try refine A0 ?_
  refine AO rfl (fun h=>?_) (fun h=>?_)
  ·have h1:=J0 h
   have h2:BK l (kindT t) t p=.error (p,9):=by unfold BK;rw[h1];rfl
   rw[h2]at hw
   rw[h1]
   try refine A0 ?_
   refine A8 ?_
   refine AJ ?_
   refine AH rfl rfl rfl rfl (by kernel_rfl) (GF E8 E9 l hl.toTksOk p (by omega)) ⟨rfl,trivial⟩ trivial ⟨(kn rfl),trivial⟩ (fun _ _ _ h=>PY.tidy h.1 h.2.1 h.2.2) ?_
   rintro _ _ _ ⟨rfl,rfl,rfl⟩
   refine AG ?_
   refine A6 ?_
   try refine A0 ?_
   exact A7 (pB l p) ([]) rfl (.tmp (kn rfl) (.nil)) (Imp.refl _) ⟨s_b,trivial⟩ trivial (.inl ⟨p,9,p,hw,rfl,rfl,rfl⟩)
  have h1:=IB h
  have h2:BK l (kindT t) t p=.ok (p+1):=by unfold BK;rw[h1];rfl
  rw[h2]at hw
  rw[h1]
  try refine A0 ?_
  refine A1 (A5 rfl rfl rfl (AN rfl (kn rfl) (kn rfl) (BF (by first | omega | (dsimp only;omega)))) (AA rfl rfl rfl rfl rfl .nil)) ?_
  try refine A0 ?_
  refine BB ⟨(i+1,p+1),by omega,by dsimp only;omega,hw⟩ (by dsimp only;omega) (fun K=>B8 ⟨s_t,s_t,s_t,s_t,trivial⟩ ⟨s_b,trivial⟩ trivial)
 obtain rfl:i=ts.length:=by have:=of_decide_eq_false h;omega
 rw[List.drop_length,EK]at hw
 try refine A0 ?_
 refine A1 (AE rfl rfl rfl rfl rfl .nil) ?_
 try refine A0 ?_
 exact A7 (pB l p) ([]) rfl (.tmp (kn rfl) (.nil)) (Imp.refl _) ⟨s_b,trivial⟩ trivial (.inr ⟨p,hw,rfl,rfl,rfl⟩)
theorem Q5S(w:World)(hT:TabK w)(l:List UInt8):Calls Tryz.prog 137 #[.string (str l)] w fun e w'=>e=.returned (.tuple #[.int .i64 (EH l 16:Int),.bool (decide (0<EH l 16))])/\w=w':=by
 have HN:=Lib.hid (RQ l 16)
 have HI:=Lib.hid (fun i h1 he h=>YX l i h1 he 16 h (by decide))
 have HC:=Lib.hid hT.name
 generalize EH l 16=K at *
 obtain⟨V,hV⟩:∃ V,decide (0<K)=V:=⟨_,rfl⟩
 rw[hV]
 have HV:=Lib.hid hV
 clear hT hV
 go_enter Tryz.func137,Tryz.ntmps137
 go_wp2_with fail
 go_loop [4] (fun i=>∃ k:Nat,1<=k/\k<=16/\i=.int .i64 (k:Int)/\Hid (∀ j,1<=j->j<k->kname j≠l)) (fun i=>16-(intOf i).toNat)
 case atStart=>exact⟨1,by omega,by omega,rfl,Lib.hid (fun j h1 h2=>by omega)⟩
 case round=>
  obtain⟨k,h1,h2,rfl,H⟩:=hrel
  by_cases hk:k<=15
  ·have c0:=HC.out k (by omega)
   by_cases he:kname k=l
   ·have hK:=HI.out k h1 he (by omega)
    rw[he]at c0
    clear he H HI HN
    subst hK
    have hV:=HV.out
    rw[decide_eq_true (by omega)]at hV
    subst hV
    go_wp2_with fail
    go_ret2
    exact⟨rfl,rfl⟩
   ·have hne:((str (kname k)).toList==(str l).toList)=false:=by rw[CH,CH,beq_eq_false_iff_ne];exact he
    have HS:Hid (∀ j,1<=j->j<k+1->kname j≠l):=Lib.hid (fun j a b=>by
     by_cases e:j=k
     ·rw[e];exact he
     ·exact H.out j a (by omega))
    clear he H
    generalize kname k=m at *
    go_wp2_with fail
    go_round
    case rel=>exact⟨k+1,by omega,by omega,by go_num,HS⟩
    case measure=>simp[intOf];omega
  ·obtain rfl:k=16:=by omega
   have hK:=HN.out H.out
   have hV:=HV.out
   rw[hK,decide_eq_false (by omega)]at hV
   subst hK hV
   clear hk H
   go_wp2_with fail
   go_ret2
   exact⟨rfl,rfl⟩
section
theorem kq{T:TL}{t:Nat}{ty:TypeId}{ds:List Dat}(h:lk t T=some (.part (.one (.ptr ty ds)))):Kn T (.tmp t) (.ref ds):=EU (kn h) (Imp.ptr_ref _ _)
abbrev bD(b:Bool):Dat:=.cell (.bool b)
def OK:List Value:=(List.range 18).flatMap fun i=>[.string (str (kname i)),.int .i64 (kwire i),.bool (knumB i),.bool (kkeyB i)]
theorem FW:∀ i,i<18->OK[i*4]?=some (.string (str (kname i)))/\OK[i*4+1]?=some (.int .i64 (kwire i))/\OK[i*4+2]?=some (.bool (knumB i))/\OK[i*4+3]?=some (.bool (kkeyB i))
 | 0,_=>⟨rfl,rfl,rfl,rfl⟩ | 1,_=>⟨rfl,rfl,rfl,rfl⟩ | 2,_=>⟨rfl,rfl,rfl,rfl⟩ | 3,_=>⟨rfl,rfl,rfl,rfl⟩ | 4,_=>⟨rfl,rfl,rfl,rfl⟩ | 5,_=>⟨rfl,rfl,rfl,rfl⟩
 | 6,_=>⟨rfl,rfl,rfl,rfl⟩ | 7,_=>⟨rfl,rfl,rfl,rfl⟩ | 8,_=>⟨rfl,rfl,rfl,rfl⟩ | 9,_=>⟨rfl,rfl,rfl,rfl⟩ | 10,_=>⟨rfl,rfl,rfl,rfl⟩ | 11,_=>⟨rfl,rfl,rfl,rfl⟩
 | 12,_=>⟨rfl,rfl,rfl,rfl⟩ | 13,_=>⟨rfl,rfl,rfl,rfl⟩ | 14,_=>⟨rfl,rfl,rfl,rfl⟩ | 15,_=>⟨rfl,rfl,rfl,rfl⟩ | 16,_=>⟨rfl,rfl,rfl,rfl⟩ | 17,_=>⟨rfl,rfl,rfl,rfl⟩
 | _+18,h=>absurd h (by omega)
abbrev gK:Nat×List Value:=(20,OK)
theorem VQ{gls:List (Nat×List Value)}(hk:gK∈gls){w:World}(h:WX gls w):TabK w:=by
 have h1:=(h _ _ hk).2
 exact⟨fun i hi=>h1 _ _ (FW i hi).1,fun i hi=>h1 _ _ (FW i hi).2.1,fun i hi=>h1 _ _ (FW i hi).2.2.1,fun i hi=>h1 _ _ (FW i hi).2.2.2⟩
theorem Q0Z{gls:List (Nat×List Value)}(hk:gK∈gls)(l:List UInt8):EF Tryz.prog gls 137 [sP l] (.tup [iP (EH l 16:Int),bP (decide (0<EH l 16))]):=
 UF [.string (str l)] fun w hG=>(Q5S w (VQ hk hG) l).mono fun e w' ⟨h1,h2⟩=>⟨h2▸Below.refl _ _,.inr ⟨[.int .i64 (EH l 16:Int),.bool (decide (0<EH l 16))],rfl,h1⟩⟩
theorem Q2C{gls:List (Nat×List Value)}(hk:gK∈gls)(z:Int):EF Tryz.prog gls 185 [iP z] (.part (bP (knumB (kno z)))):=
 Q1r [.int .i64 z] (.bool (knumB (kno z))) fun w hG=>(Q0B w (VQ hk hG) z).mono fun e w' ⟨h1,h2⟩=>⟨h1,h2⟩
theorem Q4u{gls:List (Nat×List Value)}(hk:gK∈gls)(z:Int):EF Tryz.prog gls 215 [iP z] (.part (bP (kkeyB (kno z)))):=
 Q1r [.int .i64 z] (.bool (kkeyB (kno z))) fun w hG=>(Q2n w (VQ hk hG) z).mono fun e w' ⟨h1,h2⟩=>⟨h1,h2⟩
theorem Q2B(gls:List (Nat×List Value))(f:FuncId)(hfc:BU Tryz.prog f=true)(caps:List Dat)(l:List (Fld))(hl:l.length<=1000000000000)(p:Fld->Bool)(hc:∀ y∈l,EF Tryz.prog gls f ([.many (Fld.dats y)]++caps.map Part.one) (.part (bP (p y)))):EF Tryz.prog gls 237 [.one (.row 10 l.length (l.flatMap Fld.dats)),.one (.fn f caps)] (.part (iP (cix p l 0))):=by
 refine AU 19 Tryz.func237 rfl rfl rfl fun w D=>?_
 try refine A0 ?_
 refine A1 (AE rfl rfl rfl rfl rfl .nil) ?_
 try refine A0 ?_
 refine A1 (AA rfl rfl rfl rfl rfl (A5 rfl rfl rfl (CI rfl (kn rfl) sle_201) (AA rfl rfl rfl rfl rfl .nil))) ?_
 try refine A0 ?_
 refine CB (ι:={ k:Nat // k<=l.length/\cix p l 0=cix p (l.drop k) k })
  (fun k=>[(0,.part (.one (.row 10 l.length (l.flatMap Fld.dats)))),(1,.part (.one (.fn f caps))),(7,.is (.int .i64 (l.length:Int))),(8,.is (.int .i64 (k.1:Int)))])
  (fun _=>[]) (fun _=>[]) (fun k=>l.length-k.1) ⟨0,by omega,rfl⟩
  (fun K=>B8 ⟨s_t,s_t,s_t,s_t,trivial⟩ trivial trivial) ?_
 rintro⟨k,hk,hw⟩
 dsimp only at hk hw ⊢
 try refine A0 ?_
 refine A1 (A5 rfl rfl rfl (AN rfl (kn rfl) (kn rfl) CP) .nil) ?_
 try refine A0 ?_
 refine AO rfl (fun h=>?_) (fun h=>?_)
 ·have hlt:k<l.length:=by have:=of_decide_eq_true h;omega
  obtain⟨x,hx⟩:∃ x,l[k]?=some x:=⟨_,List.getElem?_eq_getElem hlt⟩
  try refine A0 ?_
  refine A1 (AA rfl rfl rfl rfl rfl (AE rfl rfl rfl rfl rfl .nil)) ?_
  try refine A0 ?_
  refine A1 (AA rfl rfl rfl rfl rfl (AA rfl rfl rfl rfl rfl (AA rfl rfl rfl rfl rfl (A5 rfl rfl rfl (BO rfl (kn rfl) (kn rfl) (by omega) hx Fld.dats_len sle_201 esz_201 rfl) (A5 rfl rfl rfl (BQ rfl (kn rfl) agg_210 sz_210) (A5 rfl rfl rfl (MP (ps:=[.many (Fld.dats x)]) rfl hfc (kn rfl) (hc x (List.mem_of_getElem? hx)) ⟨kn rfl,trivial⟩) .nil)))))) ?_
  try refine A0 ?_
  refine AO rfl (fun h1=>?_) (fun h1=>?_)
  ·have e:=QU hx hw h1
   try refine A0 ?_
   refine A1 (AA rfl rfl rfl rfl rfl (AE rfl rfl rfl rfl rfl .nil)) ?_
   try refine A0 ?_
   exact AM rfl rfl (.tmp (kn rfl) (.nil)) (Imp.of_eq (by rw[e];rfl)) rfl
  try refine A0 ?_
  refine A1 (A5 rfl rfl rfl (AN rfl (kn rfl) (kn rfl) (BF (by first | omega | (dsimp only;omega)))) (AA rfl rfl rfl rfl rfl .nil)) ?_
  try refine A0 ?_
  refine BB ⟨k+1,by omega,KC hx hw h1⟩ (by dsimp only;omega) (fun K=>B8 ⟨s_t,s_t,s_t,s_t,trivial⟩ trivial trivial)
 have e:cix p l 0 = -1:=NL (by have:=of_decide_eq_false h;omega) hw
 try refine A0 ?_
 refine A1 (AE rfl rfl rfl rfl rfl .nil) ?_
 try refine A0 ?_
 exact AM rfl rfl (.tmp (kn rfl) (.nil)) (Imp.of_eq (by rw[e];rfl)) rfl
theorem Q18(gls:List (Nat×List Value))(f:FuncId)(hfc:BU Tryz.prog f=true)(caps:List Dat)(l:List (Fld))(hl:l.length<=1000000000000)(p:Fld->Bool)(hc:∀ y∈l,EF Tryz.prog gls f ([.many (Fld.dats y)]++caps.map Part.one) (.part (bP (p y)))):EF Tryz.prog gls 211 [.one (.row 10 l.length (l.flatMap Fld.dats)),.one (.fn f caps)] (.part (bP (l.any p))):=by
 refine AU 9 Tryz.func211 rfl rfl rfl fun w D=>?_
 try refine A0 ?_
 refine A1 (AE rfl rfl rfl rfl rfl .nil) ?_
 try refine A0 ?_
 refine A1 (AA rfl rfl rfl rfl rfl (AA rfl rfl rfl rfl rfl (A5 rfl rfl rfl (AY rfl (by kernel_rfl) (Q2B gls f hfc caps l hl p hc) ⟨(kn rfl),⟨(kn rfl),trivial⟩⟩) (A5 rfl rfl rfl (AN rfl (kn rfl) (kn rfl) IJ) (AE rfl rfl rfl rfl rfl .nil))))) ?_
 try refine A0 ?_
 exact AM rfl rfl (.tmp (kn rfl) (.nil)) (Imp.of_eq (by rw[<- N3 l 0];rfl)) rfl
theorem Q2Q(gls:List (Nat×List Value))(f:FuncId)(hfc:BU Tryz.prog f=true)(caps:List Dat)(l:List (Int×Int))(hl:l.length<=1000000000000)(p:Int×Int->Bool)(hc:∀ y∈l,EF Tryz.prog gls f ([.many (rangeDats y)]++caps.map Part.one) (.part (bP (p y)))):EF Tryz.prog gls 238 [.one (.row 2 l.length (l.flatMap rangeDats)),.one (.fn f caps)] (.part (iP (cix p l 0))):=by
 refine AU 19 Tryz.func238 rfl rfl rfl fun w D=>?_
 try refine A0 ?_
 refine A1 (AE rfl rfl rfl rfl rfl .nil) ?_
 try refine A0 ?_
 refine A1 (AA rfl rfl rfl rfl rfl (A5 rfl rfl rfl (CI rfl (kn rfl) sle_202) (AA rfl rfl rfl rfl rfl .nil))) ?_
 try refine A0 ?_
 refine CB (ι:={ k:Nat // k<=l.length/\cix p l 0=cix p (l.drop k) k })
  (fun k=>[(0,.part (.one (.row 2 l.length (l.flatMap rangeDats)))),(1,.part (.one (.fn f caps))),(7,.is (.int .i64 (l.length:Int))),(8,.is (.int .i64 (k.1:Int)))])
  (fun _=>[]) (fun _=>[]) (fun k=>l.length-k.1) ⟨0,by omega,rfl⟩
  (fun K=>B8 ⟨s_t,s_t,s_t,s_t,trivial⟩ trivial trivial) ?_
 rintro⟨k,hk,hw⟩
 dsimp only at hk hw ⊢
 try refine A0 ?_
 refine A1 (A5 rfl rfl rfl (AN rfl (kn rfl) (kn rfl) CP) .nil) ?_
 try refine A0 ?_
 refine AO rfl (fun h=>?_) (fun h=>?_)
 ·have hlt:k<l.length:=by have:=of_decide_eq_true h;omega
  obtain⟨x,hx⟩:∃ x,l[k]?=some x:=⟨_,List.getElem?_eq_getElem hlt⟩
  try refine A0 ?_
  refine A1 (AA rfl rfl rfl rfl rfl (AE rfl rfl rfl rfl rfl .nil)) ?_
  try refine A0 ?_
  refine A1 (AA rfl rfl rfl rfl rfl (AA rfl rfl rfl rfl rfl (AA rfl rfl rfl rfl rfl (A5 rfl rfl rfl (BO rfl (kn rfl) (kn rfl) (by omega) hx T8 sle_202 esz_202 rfl) (A5 rfl rfl rfl (BQ rfl (kn rfl) agg_353 sz_353) (A5 rfl rfl rfl (MP (ps:=[.many (rangeDats x)]) rfl hfc (kn rfl) (hc x (List.mem_of_getElem? hx)) ⟨kn rfl,trivial⟩) .nil)))))) ?_
  try refine A0 ?_
  refine AO rfl (fun h1=>?_) (fun h1=>?_)
  ·have e:=QU hx hw h1
   try refine A0 ?_
   refine A1 (AA rfl rfl rfl rfl rfl (AE rfl rfl rfl rfl rfl .nil)) ?_
   try refine A0 ?_
   exact AM rfl rfl (.tmp (kn rfl) (.nil)) (Imp.of_eq (by rw[e];rfl)) rfl
  try refine A0 ?_
  refine A1 (A5 rfl rfl rfl (AN rfl (kn rfl) (kn rfl) (BF (by first | omega | (dsimp only;omega)))) (AA rfl rfl rfl rfl rfl .nil)) ?_
  try refine A0 ?_
  refine BB ⟨k+1,by omega,KC hx hw h1⟩ (by dsimp only;omega) (fun K=>B8 ⟨s_t,s_t,s_t,s_t,trivial⟩ trivial trivial)
 have e:cix p l 0 = -1:=NL (by have:=of_decide_eq_false h;omega) hw
 try refine A0 ?_
 refine A1 (AE rfl rfl rfl rfl rfl .nil) ?_
 try refine A0 ?_
 exact AM rfl rfl (.tmp (kn rfl) (.nil)) (Imp.of_eq (by rw[e];rfl)) rfl
theorem Q2a(gls:List (Nat×List Value))(f:FuncId)(hfc:BU Tryz.prog f=true)(caps:List Dat)(l:List (Int×Int))(hl:l.length<=1000000000000)(p:Int×Int->Bool)(hc:∀ y∈l,EF Tryz.prog gls f ([.many (rangeDats y)]++caps.map Part.one) (.part (bP (p y)))):EF Tryz.prog gls 214 [.one (.row 2 l.length (l.flatMap rangeDats)),.one (.fn f caps)] (.part (bP (l.any p))):=by
 refine AU 9 Tryz.func214 rfl rfl rfl fun w D=>?_
 try refine A0 ?_
 refine A1 (AE rfl rfl rfl rfl rfl .nil) ?_
 try refine A0 ?_
 refine A1 (AA rfl rfl rfl rfl rfl (AA rfl rfl rfl rfl rfl (A5 rfl rfl rfl (AY rfl (by kernel_rfl) (Q2Q gls f hfc caps l hl p hc) ⟨(kn rfl),⟨(kn rfl),trivial⟩⟩) (A5 rfl rfl rfl (AN rfl (kn rfl) (kn rfl) IJ) (AE rfl rfl rfl rfl rfl .nil))))) ?_
 try refine A0 ?_
 exact AM rfl rfl (.tmp (kn rfl) (.nil)) (Imp.of_eq (by rw[<- N3 l 0];rfl)) rfl
def GP(z:Int):List Dat:=[.cell (.int .i64 z)]
theorem OV(z:Int):(GP z).length=1:=rfl
theorem Q5d(gls:List (Nat×List Value))(l:List (List UInt8))(hl:l.length<=1000000000000)(x:List UInt8):EF Tryz.prog gls 134 [.one (.row 1 l.length (l.flatMap textDats)),sP x] (.part (iP (cix (fun y=>decide (y=x)) l 0))):=by
 refine AU 19 Tryz.func134 rfl rfl rfl fun w D=>?_
 try refine A0 ?_
 refine A1 (AE rfl rfl rfl rfl rfl .nil) ?_
 try refine A0 ?_
 refine A1 (AA rfl rfl rfl rfl rfl (A5 rfl rfl rfl (CI rfl (kn rfl) sle_54) (AA rfl rfl rfl rfl rfl .nil))) ?_
 try refine A0 ?_
 refine CB (ι:={ k:Nat // k<=l.length/\cix (fun y=>decide (y=x)) l 0=cix (fun y=>decide (y=x)) (l.drop k) k })
  (fun k=>[(0,.part (.one (.row 1 l.length (l.flatMap textDats)))),(1,.part (sP x)),(7,.is (.int .i64 (l.length:Int))),(8,.is (.int .i64 (k.1:Int)))])
  (fun _=>[]) (fun _=>[]) (fun k=>l.length-k.1) ⟨0,by omega,rfl⟩
  (fun K=>B8 ⟨s_t,s_t,s_t,s_t,trivial⟩ trivial trivial) ?_
 rintro⟨k,hk,hw⟩
 dsimp only at hk hw ⊢
 try refine A0 ?_
 refine A1 (A5 rfl rfl rfl (AN rfl (kn rfl) (kn rfl) CP) .nil) ?_
 try refine A0 ?_
 refine AO rfl (fun h=>?_) (fun h=>?_)
 ·have hlt:k<l.length:=by have:=of_decide_eq_true h;omega
  obtain⟨y,hy⟩:∃ y,l[k]?=some y:=⟨_,List.getElem?_eq_getElem hlt⟩
  try refine A0 ?_
  refine A1 (AA rfl rfl rfl rfl rfl (AE rfl rfl rfl rfl rfl .nil)) ?_
  try refine A0 ?_
  refine A1 (AA rfl rfl rfl rfl rfl (AA rfl rfl rfl rfl rfl (AA rfl rfl rfl rfl rfl (A5 rfl rfl rfl (BO rfl (kn rfl) (kn rfl) (by omega) hy DT sle_54 esz_54 rfl) (A5 rfl rfl rfl (AD rfl (kn rfl) one_9) (A5 rfl rfl rfl (AN rfl (kn rfl) (kn rfl) (KJ)) .nil)))))) ?_
  try refine A0 ?_
  refine AO rfl (fun h1=>?_) (fun h1=>?_)
  ·have e:=QU hy hw (decide_eq_true (of_decide_eq_true h1).symm)
   try refine A0 ?_
   refine A1 (AA rfl rfl rfl rfl rfl (AE rfl rfl rfl rfl rfl .nil)) ?_
   try refine A0 ?_
   exact AM rfl rfl (.tmp (kn rfl) (.nil)) (Imp.of_eq (by rw[e];rfl)) rfl
  try refine A0 ?_
  refine A1 (A5 rfl rfl rfl (AN rfl (kn rfl) (kn rfl) (BF (by first | omega | (dsimp only;omega)))) (AA rfl rfl rfl rfl rfl .nil)) ?_
  try refine A0 ?_
  refine BB ⟨k+1,by omega,KC hy hw (decide_eq_false fun e=>of_decide_eq_false h1 e.symm)⟩ (by dsimp only;omega) (fun K=>B8 ⟨s_t,s_t,s_t,s_t,trivial⟩ trivial trivial)
 have e:cix (fun y=>decide (y=x)) l 0 = -1:=NL (by have:=of_decide_eq_false h;omega) hw
 try refine A0 ?_
 refine A1 (AE rfl rfl rfl rfl rfl .nil) ?_
 try refine A0 ?_
 exact AM rfl rfl (.tmp (kn rfl) (.nil)) (Imp.of_eq (by rw[e];rfl)) rfl
theorem XV(gls:List (Nat×List Value))(l:List (List UInt8))(hl:l.length<=1000000000000)(x:List UInt8):EF Tryz.prog gls 83 [.one (.row 1 l.length (l.flatMap textDats)),sP x] (.part (bP (l.any fun y=>decide (y=x)))):=by
 refine AU 9 Tryz.func83 rfl rfl rfl fun w D=>?_
 try refine A0 ?_
 refine A1 (AE rfl rfl rfl rfl rfl .nil) ?_
 try refine A0 ?_
 refine A1 (AA rfl rfl rfl rfl rfl (AA rfl rfl rfl rfl rfl (A5 rfl rfl rfl (AY rfl (by kernel_rfl) (Q5d gls l hl x) ⟨(kn rfl),⟨(kn rfl),trivial⟩⟩) (A5 rfl rfl rfl (AN rfl (kn rfl) (kn rfl) IJ) (AE rfl rfl rfl rfl rfl .nil))))) ?_
 try refine A0 ?_
 exact AM rfl rfl (.tmp (kn rfl) (.nil)) (Imp.of_eq (by rw[<- N3 l 0];rfl)) rfl
theorem Q3n(gls:List (Nat×List Value))(l:List (Int))(hl:l.length<=1000000000000)(x:Int):EF Tryz.prog gls 135 [.one (.row 1 l.length (l.flatMap GP)),iP x] (.part (iP (cix (fun y=>decide (y=x)) l 0))):=by
 refine AU 19 Tryz.func135 rfl rfl rfl fun w D=>?_
 try refine A0 ?_
 refine A1 (AE rfl rfl rfl rfl rfl .nil) ?_
 try refine A0 ?_
 refine A1 (AA rfl rfl rfl rfl rfl (A5 rfl rfl rfl (CI rfl (kn rfl) sle_72) (AA rfl rfl rfl rfl rfl .nil))) ?_
 try refine A0 ?_
 refine CB (ι:={ k:Nat // k<=l.length/\cix (fun y=>decide (y=x)) l 0=cix (fun y=>decide (y=x)) (l.drop k) k })
  (fun k=>[(0,.part (.one (.row 1 l.length (l.flatMap GP)))),(1,.part (iP x)),(7,.is (.int .i64 (l.length:Int))),(8,.is (.int .i64 (k.1:Int)))])
  (fun _=>[]) (fun _=>[]) (fun k=>l.length-k.1) ⟨0,by omega,rfl⟩
  (fun K=>B8 ⟨s_t,s_t,s_t,s_t,trivial⟩ trivial trivial) ?_
 rintro⟨k,hk,hw⟩
 dsimp only at hk hw ⊢
 try refine A0 ?_
 refine A1 (A5 rfl rfl rfl (AN rfl (kn rfl) (kn rfl) CP) .nil) ?_
 try refine A0 ?_
 refine AO rfl (fun h=>?_) (fun h=>?_)
 ·have hlt:k<l.length:=by have:=of_decide_eq_true h;omega
  obtain⟨y,hy⟩:∃ y,l[k]?=some y:=⟨_,List.getElem?_eq_getElem hlt⟩
  try refine A0 ?_
  refine A1 (AA rfl rfl rfl rfl rfl (AE rfl rfl rfl rfl rfl .nil)) ?_
  try refine A0 ?_
  refine A1 (AA rfl rfl rfl rfl rfl (AA rfl rfl rfl rfl rfl (AA rfl rfl rfl rfl rfl (A5 rfl rfl rfl (BO rfl (kn rfl) (kn rfl) (by omega) hy OV sle_72 esz_72 rfl) (A5 rfl rfl rfl (AD rfl (kn rfl) one_3) (A5 rfl rfl rfl (AN rfl (kn rfl) (kn rfl) D3) .nil)))))) ?_
  try refine A0 ?_
  refine AO rfl (fun h1=>?_) (fun h1=>?_)
  ·have e:=QU hy hw (decide_eq_true (of_decide_eq_true h1).symm)
   try refine A0 ?_
   refine A1 (AA rfl rfl rfl rfl rfl (AE rfl rfl rfl rfl rfl .nil)) ?_
   try refine A0 ?_
   exact AM rfl rfl (.tmp (kn rfl) (.nil)) (Imp.of_eq (by rw[e];rfl)) rfl
  try refine A0 ?_
  refine A1 (A5 rfl rfl rfl (AN rfl (kn rfl) (kn rfl) (BF (by first | omega | (dsimp only;omega)))) (AA rfl rfl rfl rfl rfl .nil)) ?_
  try refine A0 ?_
  refine BB ⟨k+1,by omega,KC hy hw (decide_eq_false fun e=>of_decide_eq_false h1 e.symm)⟩ (by dsimp only;omega) (fun K=>B8 ⟨s_t,s_t,s_t,s_t,trivial⟩ trivial trivial)
 have e:cix (fun y=>decide (y=x)) l 0 = -1:=NL (by have:=of_decide_eq_false h;omega) hw
 try refine A0 ?_
 refine A1 (AE rfl rfl rfl rfl rfl .nil) ?_
 try refine A0 ?_
 exact AM rfl rfl (.tmp (kn rfl) (.nil)) (Imp.of_eq (by rw[e];rfl)) rfl
theorem Q2y(gls:List (Nat×List Value))(l:List (Int))(hl:l.length<=1000000000000)(x:Int):EF Tryz.prog gls 84 [.one (.row 1 l.length (l.flatMap GP)),iP x] (.part (bP (l.any fun y=>decide (y=x)))):=by
 refine AU 9 Tryz.func84 rfl rfl rfl fun w D=>?_
 try refine A0 ?_
 refine A1 (AE rfl rfl rfl rfl rfl .nil) ?_
 try refine A0 ?_
 refine A1 (AA rfl rfl rfl rfl rfl (AA rfl rfl rfl rfl rfl (A5 rfl rfl rfl (AY rfl (by kernel_rfl) (Q3n gls l hl x) ⟨(kn rfl),⟨(kn rfl),trivial⟩⟩) (A5 rfl rfl rfl (AN rfl (kn rfl) (kn rfl) IJ) (AE rfl rfl rfl rfl rfl .nil))))) ?_
 try refine A0 ?_
 exact AM rfl rfl (.tmp (kn rfl) (.nil)) (Imp.of_eq (by rw[<- N3 l 0];rfl)) rfl
abbrev drD(m:Msg)(i:Nat)(x:Fld)(k t:Int)(b:Bool):List Dat:=[.cell (.string (str m.name)),.row 10 m.fields.length (m.fields.flatMap Fld.dats),.row 1 m.oneofs.length (m.oneofs.flatMap textDats),.row 9 m.msgs.length (m.msgs.flatMap Msg.dats),.row 4 m.enums.length (m.enums.flatMap Enm.dats),.row 2 m.reserved.length (m.reserved.flatMap rangeDats),.row 1 m.names.length (m.names.flatMap textDats),.cell (.int .i64 m.line),.cell (.int .i64 m.col),.cell (.int .i64 (i:Int)),.cell (.string (str x.name)),.cell (.string (str x.type)),.cell (.string (str x.mapKey)),.cell (.string (str x.key)),.cell (.int .i64 x.label),.cell (.int .i64 x.number),.cell (.int .i64 x.packed),.cell (.int .i64 x.oneof),.cell (.int .i64 x.line),.cell (.int .i64 x.col),.cell (.int .i64 k),.cell (.int .i64 t),bD b]
abbrev drQ(m:Msg)(i:Nat)(x:Fld)(k t:Int)(b:Bool):Dat:=.ptr 212 (drD m i x k t b)
abbrev drP(m:Msg)(i:Nat)(x:Fld)(k t:Int)(b:Bool):Part:=.one (drQ m i x k t b)
section
variable{gls:List (Nat×List Value)}(hk:gK∈gls)(m:Msg)(i:Nat)(x:Fld)(k t:Int)(b:Bool)
theorem Q0a:EF Tryz.prog gls 177 [drP m i x k t b] (.part (bP (decide (i<40)))):=by
 refine AU 8 Tryz.func177 rfl rfl rfl fun w D=>?_
 try refine A0 ?_
 refine A1 (AE rfl rfl rfl rfl rfl .nil) ?_
 try refine A0 ?_
 refine A1 (AA rfl rfl rfl rfl rfl (A5 rfl rfl rfl (AW rfl (kq rfl)) (A5 rfl rfl rfl (AF rfl (kn rfl) off_212_1) (A5 rfl rfl rfl (AD rfl (kn rfl) one_3) (A5 rfl rfl rfl (AN rfl (kn rfl) (kn rfl) CP) (AE rfl rfl rfl rfl rfl .nil)))))) ?_
 try refine A0 ?_
 exact AM rfl rfl (.tmp (kn rfl) (.nil)) (Imp.of_eq (by rw[show decide (i<40)=decide ((i:Int)<40) from decide_eq_decide.2 (by omega)];rfl)) rfl
theorem XS:EF Tryz.prog gls 178 [drP m i x k t b] (.part (bP (GS x.number))):=by
 refine AU 23 Tryz.func178 rfl rfl rfl fun w D=>?_
 try refine A0 ?_
 refine A1 (AE rfl rfl rfl rfl rfl .nil) ?_
 try refine A0 ?_
 refine A1 (AA rfl rfl rfl rfl rfl (A5 rfl rfl rfl (AW rfl (kq rfl)) (A5 rfl rfl rfl (AF rfl (kn rfl) off_212_2) (A5 rfl rfl rfl (AF rfl (kn rfl) off_210_5) (A5 rfl rfl rfl (AD rfl (kn rfl) one_3) (AE rfl rfl rfl rfl rfl .nil)))))) ?_
 try refine A0 ?_
 refine A1 (AA rfl rfl rfl rfl rfl (A5 rfl rfl rfl (AN rfl (kn rfl) (kn rfl) IJ) (AA rfl rfl rfl rfl rfl (Walk.gd _ rfl rfl rfl (fun h=>C8 rfl (kn rfl)) (Walk.gd _ rfl rfl rfl (fun h=>AN rfl (A9 rfl h) (kn rfl) Q3B) (A5 rfl rfl rfl (EC rfl (kn rfl) (fun hb=>A9 rfl hb)) (AA rfl rfl rfl rfl rfl (Walk.gd _ rfl rfl rfl (fun h=>C8 rfl (kn rfl)) (Walk.gd _ rfl rfl rfl (fun h=>AN rfl (A9 rfl h) (kn rfl) CP) (Walk.gd _ rfl rfl rfl (fun h=>C8 rfl (A9 rfl h)) (Walk.gd _ rfl rfl rfl (fun h=>C8 rfl (kn rfl)) (Walk.gd _ rfl rfl rfl (fun h=>AN rfl (A9 rfl h) (kn rfl) NO) (Walk.gd _ rfl rfl rfl (fun h=>EJ rfl (A9 rfl h) (fun hb=>A9 rfl (gb h hb))) (A5 rfl rfl rfl (EC rfl (kn rfl) (fun hb=>A9 rfl hb)) (AE rfl rfl rfl rfl rfl .nil))))))))))))))) ?_
 try refine A0 ?_
 exact AM rfl rfl (.tmp (kn rfl) (.nil)) (Imp.of_eq rfl) rfl
theorem Q06:EF Tryz.prog gls 181 [drP m i x k t b] (.part (bP b)):=by
 refine AU 7 Tryz.func181 rfl rfl rfl fun w D=>?_
 try refine A0 ?_
 refine A1 (AE rfl rfl rfl rfl rfl .nil) ?_
 try refine A0 ?_
 refine A1 (AA rfl rfl rfl rfl rfl (A5 rfl rfl rfl (AW rfl (kq rfl)) (A5 rfl rfl rfl (AF rfl (kn rfl) off_212_5) (A5 rfl rfl rfl (AD rfl (kn rfl) one_4) (AE rfl rfl rfl rfl rfl .nil))))) ?_
 try refine A0 ?_
 exact AM rfl rfl (.tmp (kn rfl) (.nil)) (Imp.refl _) rfl
theorem ZE:EF Tryz.prog gls 144 [drP m i x k t b] (.part (bP (ZM x))):=by
 refine AU 9 Tryz.func144 rfl rfl rfl fun w D=>?_
 try refine A0 ?_
 refine A1 (AE rfl rfl rfl rfl rfl .nil) ?_
 try refine A0 ?_
 refine A1 (AA rfl rfl rfl rfl rfl (A5 rfl rfl rfl (AW rfl (kq rfl)) (A5 rfl rfl rfl (AF rfl (kn rfl) off_212_2) (A5 rfl rfl rfl (AF rfl (kn rfl) off_210_4) (A5 rfl rfl rfl (AD rfl (kn rfl) one_3) (A5 rfl rfl rfl (AN rfl (kn rfl) (kn rfl) D3) (AE rfl rfl rfl rfl rfl .nil))))))) ?_
 try refine A0 ?_
 exact AM rfl rfl (.tmp (kn rfl) (.nil)) (Imp.of_eq rfl) rfl
include hk
theorem RG:EF Tryz.prog gls 143 [drP m i x k t b] (.part (bP (Q4n x k))):=by
 refine AU 16 Tryz.func143 rfl rfl rfl fun w D=>?_
 try refine A0 ?_
 refine A1 (AE rfl rfl rfl rfl rfl .nil) ?_
 try refine A0 ?_
 refine A1 (AA rfl rfl rfl rfl rfl (A5 rfl rfl rfl (AW rfl (kq rfl)) (A5 rfl rfl rfl (AF rfl (kn rfl) off_212_2) (A5 rfl rfl rfl (AF rfl (kn rfl) off_210_4) (A5 rfl rfl rfl (AD rfl (kn rfl) one_3) (A5 rfl rfl rfl (AN rfl (kn rfl) (kn rfl) D3) (AA rfl rfl rfl rfl rfl (Walk.gd _ rfl rfl rfl (fun h=>C8 rfl (kn rfl)) (Walk.gd _ rfl rfl rfl (fun h=>AW rfl (EU (A9 rfl h) (Imp.ptr_ref _ _))) (Walk.gd _ rfl rfl rfl (fun h=>AF rfl (A9 rfl h) off_212_3) (Walk.gd _ rfl rfl rfl (fun h=>AD rfl (A9 rfl h) one_3) (Walk.gd _ rfl rfl rfl (fun h=>AY rfl (by kernel_rfl) (Q2C hk k) ⟨(A9 rfl h),trivial⟩) (A5 rfl rfl rfl (EC rfl (kn rfl) (fun hb=>A9 rfl hb)) (AE rfl rfl rfl rfl rfl .nil)))))))))))))) ?_
 try refine A0 ?_
 exact AM rfl rfl (.tmp (kn rfl) (.nil)) (Imp.of_eq rfl) rfl
theorem TN:EF Tryz.prog gls 183 [drP m i x k t b] (.part (bP (ZD x k))):=by
 refine AU 13 Tryz.func183 rfl rfl rfl fun w D=>?_
 try refine A0 ?_
 refine A1 (AE rfl rfl rfl rfl rfl .nil) ?_
 try refine A0 ?_
 refine A1 (AA rfl rfl rfl rfl rfl (A5 rfl rfl rfl (AW rfl (kq rfl)) (A5 rfl rfl rfl (AF rfl (kn rfl) off_212_2) (A5 rfl rfl rfl (AF rfl (kn rfl) off_210_6) (A5 rfl rfl rfl (AD rfl (kn rfl) one_3) (A5 rfl rfl rfl (AN rfl (kn rfl) (kn rfl) D3) (AA rfl rfl rfl rfl rfl (Walk.gd _ rfl rfl rfl (fun h=>C8 rfl (kn rfl)) (Walk.gd _ rfl rfl rfl (fun h=>AY rfl (by kernel_rfl) (RG hk m i x k t b) ⟨(A9 rfl h),trivial⟩) (A5 rfl rfl rfl (EJ rfl (kn rfl) (fun hb=>A9 rfl hb)) (AE rfl rfl rfl rfl rfl .nil))))))))))) ?_
 try refine A0 ?_
 exact AM rfl rfl (.tmp (kn rfl) (.nil)) (Imp.of_eq rfl) rfl
omit hk
theorem Q1h:EF Tryz.prog gls 184 [drP m i x k t b] (.part (bP (XC x k))):=by
 refine AU 24 Tryz.func184 rfl rfl rfl fun w D=>?_
 try refine A0 ?_
 refine A1 (AE rfl rfl rfl rfl rfl .nil) ?_
 try refine A0 ?_
 refine A1 (AA rfl rfl rfl rfl rfl (A5 rfl rfl rfl (AW rfl (kq rfl)) (A5 rfl rfl rfl (AF rfl (kn rfl) off_212_2) (A5 rfl rfl rfl (AF rfl (kn rfl) off_210_3) (A5 rfl rfl rfl (AD rfl (kn rfl) one_9) (A5 rfl rfl rfl (AN rfl (kn rfl) (kn rfl) (KJ (b:=[]))) (AA rfl rfl rfl rfl rfl (Walk.gd _ rfl rfl rfl (fun h=>C8 rfl (kn rfl)) (Walk.gd _ rfl rfl rfl (fun h=>AW rfl (EU (A9 rfl h) (Imp.ptr_ref _ _))) (Walk.gd _ rfl rfl rfl (fun h=>AF rfl (A9 rfl h) off_212_2) (Walk.gd _ rfl rfl rfl (fun h=>AF rfl (A9 rfl h) off_210_4) (Walk.gd _ rfl rfl rfl (fun h=>AD rfl (A9 rfl h) one_3) (Walk.gd _ rfl rfl rfl (fun h=>AN rfl (A9 rfl h) (kn rfl) D3) (Walk.gd _ rfl rfl rfl (fun h=>C8 rfl (A9 rfl h)) (Walk.gd _ rfl rfl rfl (fun h=>C8 rfl (kn rfl)) (Walk.gd _ rfl rfl rfl (fun h=>AW rfl (EU (A9 rfl h) (Imp.ptr_ref _ _))) (Walk.gd _ rfl rfl rfl (fun h=>AF rfl (A9 rfl h) off_212_3) (Walk.gd _ rfl rfl rfl (fun h=>AD rfl (A9 rfl h) one_3) (Walk.gd _ rfl rfl rfl (fun h=>AN rfl (A9 rfl h) (kn rfl) D3) (Walk.gd _ rfl rfl rfl (fun h=>EC rfl (A9 rfl h) (fun hb=>A9 rfl (gb h hb))) (A5 rfl rfl rfl (EJ rfl (kn rfl) (fun hb=>A9 rfl hb)) (AE rfl rfl rfl rfl rfl .nil)))))))))))))))))))))) ?_
 try refine A0 ?_
 exact AM rfl rfl (.tmp (kn rfl) (.nil)) (Imp.of_eq rfl) rfl
include hk
theorem TF:EF Tryz.prog gls 182 [drP m i x k t b] (.part (bP (PC x))):=by
 refine AU 24 Tryz.func182 rfl rfl rfl fun w D=>?_
 try refine A0 ?_
 refine A1 (AE rfl rfl rfl rfl rfl .nil) ?_
 try refine A0 ?_
 refine A1 (AA rfl rfl rfl rfl rfl (A5 rfl rfl rfl (AW rfl (kq rfl)) (A5 rfl rfl rfl (AF rfl (kn rfl) off_212_2) (A5 rfl rfl rfl (AF rfl (kn rfl) off_210_2) (A5 rfl rfl rfl (AD rfl (kn rfl) one_9) (A5 rfl rfl rfl (AY rfl (by kernel_rfl) (Q0Z hk x.mapKey) ⟨(kn rfl),trivial⟩) (AA rfl rfl rfl rfl rfl (A5 rfl rfl rfl (BN rfl (kn rfl) rfl) (A5 rfl rfl rfl (BN rfl (kn rfl) rfl) (AE rfl rfl rfl rfl rfl (AE rfl rfl rfl rfl rfl .nil))))))))))) ?_
 try refine A0 ?_
 refine A1 (AA rfl rfl rfl rfl rfl (A5 rfl rfl rfl (AY rfl (by kernel_rfl) (ZE m i x k t b) ⟨(kn rfl),trivial⟩) (A5 rfl rfl rfl (DL rfl (kn rfl)) (AA rfl rfl rfl rfl rfl (Walk.gd _ rfl rfl rfl (fun h=>C8 rfl (kn rfl)) (Walk.gd _ rfl rfl rfl (fun h=>C8 rfl (A9 rfl h)) (Walk.gd _ rfl rfl rfl (fun h=>C8 rfl (kn rfl)) (Walk.gd _ rfl rfl rfl (fun h=>AY rfl (by kernel_rfl) (Q4u hk (EH x.mapKey 16:Int)) ⟨(A9 rfl h),trivial⟩) (Walk.gd _ rfl rfl rfl (fun h=>EC rfl (A9 rfl h) (fun hb=>A9 rfl (gb h hb))) (A5 rfl rfl rfl (EJ rfl (kn rfl) (fun hb=>A9 rfl hb)) (AE rfl rfl rfl rfl rfl .nil))))))))))) ?_
 try refine A0 ?_
 exact AM rfl rfl (.tmp (kn rfl) (.nil)) (Imp.of_eq rfl) rfl
omit hk
theorem Q21(y:Fld):EF Tryz.prog gls 212 [.many y.dats,.one (.ptr 276 [drQ m i x k t b])] (.part (bP (decide (y.name=x.name)||decide (y.number=x.number)))):=by
 refine AU 22 Tryz.func212 rfl rfl rfl fun w D=>?_
 try refine A0 ?_
 refine A8 ?_
 refine DZ 2 rfl rfl rfl rfl (kn rfl) rfl rfl rfl rfl ?_
 refine AG ?_
 refine A6 ?_
 try refine A0 ?_
 refine FI mixed (by kernel_rfl) (A5 rfl rfl rfl (A3 rfl (kn rfl) off_210_0) (A5 rfl rfl rfl (A4 rfl (kn rfl) rfl rfl one_9) (A5 rfl rfl rfl (AD rfl (kq rfl) one_276) (A5 rfl rfl rfl (AW rfl (kq rfl)) (A5 rfl rfl rfl (AF rfl (kn rfl) off_212_2) (A5 rfl rfl rfl (AF rfl (kn rfl) off_210_0) (A5 rfl rfl rfl (AD rfl (kn rfl) one_9) (A5 rfl rfl rfl (AN rfl (kn rfl) (kn rfl) (KJ)) (AA rfl rfl rfl rfl rfl (Walk.gd _ rfl rfl rfl (fun h=>A3 rfl (kn rfl) off_210_5) (Walk.gd _ rfl rfl rfl (fun h=>A4 rfl (A9 rfl h) rfl rfl one_3) (Walk.gd _ rfl rfl rfl (fun h=>AD rfl (kq rfl) one_276) (Walk.gd _ rfl rfl rfl (fun h=>AW rfl (EU (A9 rfl h) (Imp.ptr_ref _ _))) (Walk.gd _ rfl rfl rfl (fun h=>AF rfl (A9 rfl h) off_212_2) (Walk.gd _ rfl rfl rfl (fun h=>AF rfl (A9 rfl h) off_210_5) (Walk.gd _ rfl rfl rfl (fun h=>AD rfl (A9 rfl h) one_3) (Walk.gd _ rfl rfl rfl (fun h=>AN rfl (A9 rfl h) (A9 rfl h) D3) (A5 rfl rfl rfl (EJ rfl (kn rfl) (fun hb=>A9 rfl hb)) (AE rfl rfl rfl rfl rfl .nil))))))))))))))))))) ?_
 try refine A0 ?_
 exact AM rfl rfl (.tmp (kn rfl) (.nil)) (Imp.of_eq rfl) rfl
theorem Q0e(r:Int×Int):EF Tryz.prog gls 213 [.many (rangeDats r),.one (.ptr 276 [drQ m i x k t b])] (.part (bP (decide (r.1<=x.number)&&decide (x.number<=r.2)))):=by
 refine AU 22 Tryz.func213 rfl rfl rfl fun w D=>?_
 try refine A0 ?_
 refine A8 ?_
 refine DZ 2 rfl rfl rfl rfl (kn rfl) rfl rfl rfl rfl ?_
 refine AG ?_
 refine A6 ?_
 try refine A0 ?_
 refine FI mixed (by kernel_rfl) (A5 rfl rfl rfl (A3 rfl (kn rfl) off_353_0) (A5 rfl rfl rfl (A4 rfl (kn rfl) rfl rfl one_3) (A5 rfl rfl rfl (AD rfl (kq rfl) one_276) (A5 rfl rfl rfl (AW rfl (kq rfl)) (A5 rfl rfl rfl (AF rfl (kn rfl) off_212_2) (A5 rfl rfl rfl (AF rfl (kn rfl) off_210_5) (A5 rfl rfl rfl (AD rfl (kn rfl) one_3) (A5 rfl rfl rfl (AN rfl (kn rfl) (kn rfl) Q3B) (AA rfl rfl rfl rfl rfl (Walk.gd _ rfl rfl rfl (fun h=>AD rfl (kq rfl) one_276) (Walk.gd _ rfl rfl rfl (fun h=>AW rfl (EU (A9 rfl h) (Imp.ptr_ref _ _))) (Walk.gd _ rfl rfl rfl (fun h=>AF rfl (A9 rfl h) off_212_2) (Walk.gd _ rfl rfl rfl (fun h=>AF rfl (A9 rfl h) off_210_5) (Walk.gd _ rfl rfl rfl (fun h=>AD rfl (A9 rfl h) one_3) (Walk.gd _ rfl rfl rfl (fun h=>A3 rfl (kn rfl) off_353_1) (Walk.gd _ rfl rfl rfl (fun h=>A4 rfl (A9 rfl h) rfl rfl one_3) (Walk.gd _ rfl rfl rfl (fun h=>AN rfl (A9 rfl h) (A9 rfl h) Q3B) (A5 rfl rfl rfl (EC rfl (kn rfl) (fun hb=>A9 rfl hb)) (AE rfl rfl rfl rfl rfl .nil))))))))))))))))))) ?_
 try refine A0 ?_
 exact AM rfl rfl (.tmp (kn rfl) (.nil)) (Imp.of_eq rfl) rfl
theorem Q4P(hm:m.fields.length<=100000000000)(hi:i<=m.fields.length):EF Tryz.prog gls 179 [drP m i x k t b] (.part (bP (XG (m.fields.take i) x))):=by
 have htl:(m.fields.take i).length=i:=by rw[List.length_take];omega
 refine AU 16 Tryz.func179 rfl rfl rfl fun w D=>?_
 try refine A0 ?_
 refine A8 ?_
 refine OL 1 rfl rfl rfl rfl (kn rfl) rfl rfl rfl rfl ?_
 refine AG ?_
 refine A6 ?_
 try refine A0 ?_
 refine FA 1 1 rfl rfl rfl ?_
 refine FI mixed (by kernel_rfl) (A5 rfl rfl rfl (AD rfl (kq rfl) one_276) (A5 rfl rfl rfl (AW rfl (kq rfl)) (A5 rfl rfl rfl (AF rfl (kn rfl) off_212_0) (A5 rfl rfl rfl (AF rfl (kn rfl) off_204_1) (A5 rfl rfl rfl (AD rfl (kn rfl) one_201) (A5 rfl rfl rfl (AD rfl (kq rfl) one_276) (A5 rfl rfl rfl (AW rfl (kq rfl)) (A5 rfl rfl rfl (AF rfl (kn rfl) off_212_1) (A5 rfl rfl rfl (AD rfl (kn rfl) one_3) (A5 rfl rfl rfl (YA rfl (kn rfl) (kn rfl) (by omega) Fld.dats_len sle_201 esz_201) (A5 rfl rfl rfl (L6 (ds:=[.ptr 276 [drQ m i x k t b]]) rfl ⟨kn rfl,trivial⟩) (A5 rfl rfl rfl (AY rfl (by kernel_rfl) (Q18 gls 212 (by kernel_rfl) [.ptr 276 [drQ m i x k t b]] (m.fields.take i) (by omega) (fun y=>decide (y.name=x.name)||decide (y.number=x.number)) (fun y _=>Q21 m i x k t b y)) ⟨(kn rfl),⟨(kn rfl),trivial⟩⟩) (A5 rfl rfl rfl (DL rfl (kn rfl)) (AE rfl rfl rfl rfl rfl .nil)))))))))))))) ?_
 try refine A0 ?_
 exact AM rfl rfl (.tmp (kn rfl) (.nil)) (Imp.of_eq rfl) rfl
theorem Q3e(h1:m.reserved.length<=100000000000)(h2:m.names.length<=100000000000):EF Tryz.prog gls 180 [drP m i x k t b] (.part (bP (XK m x))):=by
 refine AU 27 Tryz.func180 rfl rfl rfl fun w D=>?_
 try refine A0 ?_
 refine A8 ?_
 refine OL 1 rfl rfl rfl rfl (kn rfl) rfl rfl rfl rfl ?_
 refine AG ?_
 refine A6 ?_
 try refine A0 ?_
 refine FA 1 1 rfl rfl rfl ?_
 refine A1 (A5 rfl rfl rfl (L6 (ds:=[.ptr 276 [drQ m i x k t b]]) rfl ⟨kn rfl,trivial⟩) (AE rfl rfl rfl rfl rfl .nil)) ?_
 try refine A0 ?_
 refine FI mixed (by kernel_rfl) (A5 rfl rfl rfl (AD rfl (kq rfl) one_276) (A5 rfl rfl rfl (AW rfl (kq rfl)) (A5 rfl rfl rfl (AF rfl (kn rfl) off_212_0) (A5 rfl rfl rfl (AF rfl (kn rfl) off_204_5) (A5 rfl rfl rfl (AD rfl (kn rfl) one_202) (AA rfl rfl rfl rfl rfl (A5 rfl rfl rfl (AY rfl (by kernel_rfl) (Q2a gls 213 (by kernel_rfl) [.ptr 276 [drQ m i x k t b]] m.reserved (by omega) (fun r=>decide (r.1<=x.number)&&decide (x.number<=r.2)) (fun r _=>Q0e m i x k t b r)) ⟨(kn rfl),⟨(kn rfl),trivial⟩⟩) (A5 rfl rfl rfl (DL rfl (kn rfl)) (AA rfl rfl rfl rfl rfl (Walk.gd _ rfl rfl rfl (fun h=>AD rfl (kq rfl) one_276) (Walk.gd _ rfl rfl rfl (fun h=>AW rfl (EU (A9 rfl h) (Imp.ptr_ref _ _))) (Walk.gd _ rfl rfl rfl (fun h=>AF rfl (A9 rfl h) off_212_0) (Walk.gd _ rfl rfl rfl (fun h=>AF rfl (A9 rfl h) off_204_6) (Walk.gd _ rfl rfl rfl (fun h=>AD rfl (A9 rfl h) one_54) (Walk.gd _ rfl rfl rfl (fun h=>AD rfl (kq rfl) one_276) (Walk.gd _ rfl rfl rfl (fun h=>AW rfl (EU (A9 rfl h) (Imp.ptr_ref _ _))) (Walk.gd _ rfl rfl rfl (fun h=>AF rfl (A9 rfl h) off_212_2) (Walk.gd _ rfl rfl rfl (fun h=>AF rfl (A9 rfl h) off_210_0) (Walk.gd _ rfl rfl rfl (fun h=>AD rfl (A9 rfl h) one_9) (Walk.gd _ rfl rfl rfl (fun h=>AY rfl (by kernel_rfl) (XV gls m.names (by omega) x.name) ⟨(A9 rfl h),⟨(A9 rfl h),trivial⟩⟩) (Walk.gd _ rfl rfl rfl (fun h=>DL rfl (A9 rfl h)) (A5 rfl rfl rfl (EC rfl (kn rfl) (fun hb=>A9 rfl hb)) (AE rfl rfl rfl rfl rfl .nil))))))))))))))))))))))) ?_
 try refine A0 ?_
 exact AM rfl rfl (.tmp (kn rfl) (.nil)) (Imp.of_eq rfl) rfl
end
end
end Go.Proofs.YtgcphgdkddihcaaGreatDoor
