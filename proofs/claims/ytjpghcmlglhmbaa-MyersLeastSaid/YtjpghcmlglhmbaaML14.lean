/- Part 14. Conditions: as each theorem says. -/
import Derived.Test.YtjpghcmlglhmbaaML13
import Derived.Test.YtjpghcmlglhmbaaProg
set_option maxRecDepth 100000
namespace Go.Proofs.Ytjpghcmlglhmbaa
open Go.RowKit
abbrev rnP(p:Rn):Part:=.many (rnD p)
theorem HB(p:Rn):EF Try.prog [] 26 [rnP p] (.part (bP (BQ p))):=by
 obtain⟨k,c⟩:=p
 refine AI 16 Try.func26 rfl rfl rfl fun w D=>?_
 try refine A2 ?_
 refine AK ?_
 refine ME 1 rfl rfl rfl rfl (kn rfl) rfl rfl rfl rfl ?_
 refine BA ?_
 refine AB ?_
 try refine A2 ?_
 refine A0 (A3 rfl rfl rfl (AE rfl (kn rfl) off_45_0) (A3 rfl rfl rfl (AD rfl (kn rfl) rfl rfl one_3) (A3 rfl rfl rfl (A4 rfl (kn rfl) (kn rfl) G0) (A5 rfl rfl rfl rfl rfl (Walk.gd _ rfl rfl rfl (fun h=>AE rfl (kn rfl) off_45_0) (Walk.gd _ rfl rfl rfl (fun h=>AD rfl (A1 rfl h) rfl rfl one_3) (Walk.gd _ rfl rfl rfl (fun h=>A4 rfl (A1 rfl h) (kn rfl) FC) (A3 rfl rfl rfl (BC rfl (kn rfl) (fun hb=>A1 rfl hb)) (A5 rfl rfl rfl rfl rfl (Walk.gd _ rfl rfl rfl (fun h=>AE rfl (kn rfl) off_45_1) (Walk.gd _ rfl rfl rfl (fun h=>AD rfl (A1 rfl h) rfl rfl one_3) (Walk.gd _ rfl rfl rfl (fun h=>A4 rfl (A1 rfl h) (kn rfl) G0) (A3 rfl rfl rfl (BC rfl (kn rfl) (fun hb=>A1 rfl hb)) (A8 rfl rfl rfl rfl rfl .nil)))))))))))))) ?_
 try refine A2 ?_
 exact A9 rfl rfl (.tmp (kn rfl) (.nil)) (Imp.refl _) rfl
def tkA(k c:Int):Int:=if k=1\/k=2 then c else 0
def tkB(k c:Int):Int:=if k=1\/k=3 then c else 0
theorem L6(k c:Int):EF Try.prog [] 28 [rnP (k,c)] (.tup [zP (tkA k c),zP (tkB k c)]):=by
 refine AI 20 Try.func28 rfl rfl rfl fun w D=>?_
 try refine A2 ?_
 refine AK ?_
 refine ME 1 rfl rfl rfl rfl (kn rfl) rfl rfl rfl rfl ?_
 refine BA ?_
 refine BA ?_
 refine AB ?_
 try refine A2 ?_
 refine A0 (A3 rfl rfl rfl (AE rfl (kn rfl) off_45_0) (A3 rfl rfl rfl (AD rfl (kn rfl) rfl rfl one_3) .nil)) ?_
 try refine A2 ?_
 refine A0 (A3 rfl rfl rfl (A4 rfl (kn rfl) (kn rfl) B5) (A8 rfl rfl rfl rfl rfl .nil)) ?_
 try refine A2 ?_
 refine AA rfl (fun h1=>?_) (fun h1=>?_)
 ·have e:=of_decide_eq_true h1
  have ea:tkA k c=c:=if_pos (.inl e)
  have eb:tkB k c=c:=if_pos (.inl e)
  rw[ea,eb]
  try refine A2 ?_
  refine C0 C9 (by kernel_rfl) (A3 rfl rfl rfl (AE rfl (kn rfl) off_45_1) (A3 rfl rfl rfl (AD rfl (kn rfl) rfl rfl one_3) (A3 rfl rfl rfl (AE rfl (kn rfl) off_45_1) (A3 rfl rfl rfl (AD rfl (kn rfl) rfl rfl one_3) (A8 rfl rfl rfl rfl rfl (A8 rfl rfl rfl rfl rfl .nil)))))) ?_
  try refine A2 ?_
  exact A9 rfl rfl (.tmp (kn rfl) (.tmp (kn rfl) (.nil))) (Imp.refl _) rfl
 try refine A2 ?_
 refine A0 (A3 rfl rfl rfl (A4 rfl (kn rfl) (kn rfl) B5) (A8 rfl rfl rfl rfl rfl .nil)) ?_
 try refine A2 ?_
 refine AA rfl (fun h2=>?_) (fun h2=>?_)
 ·have e:=of_decide_eq_true h2
  have ea:tkA k c=c:=if_pos (.inr e)
  have eb:tkB k c=0:=if_neg (by omega)
  rw[ea,eb]
  try refine A2 ?_
  refine A0 (A3 rfl rfl rfl (AE rfl (kn rfl) off_45_1) (A3 rfl rfl rfl (AD rfl (kn rfl) rfl rfl one_3) (A8 rfl rfl rfl rfl rfl (A8 rfl rfl rfl rfl rfl .nil)))) ?_
  try refine A2 ?_
  exact A9 rfl rfl (.tmp (kn rfl) (.tmp (kn rfl) (.nil))) (Imp.refl _) rfl
 try refine A2 ?_
 refine A0 (A3 rfl rfl rfl (A4 rfl (kn rfl) (kn rfl) B5) (A8 rfl rfl rfl rfl rfl .nil)) ?_
 try refine A2 ?_
 have e1:=of_decide_eq_false h1
 have e2:=of_decide_eq_false h2
 refine AA rfl (fun h3=>?_) (fun h3=>?_)
 ·have e:=of_decide_eq_true h3
  have ea:tkA k c=0:=if_neg (by omega)
  have eb:tkB k c=c:=if_pos (.inr e)
  rw[ea,eb]
  try refine A2 ?_
  refine C0 C9 (by kernel_rfl) (A3 rfl rfl rfl (AE rfl (kn rfl) off_45_1) (A3 rfl rfl rfl (AD rfl (kn rfl) rfl rfl one_3) (A8 rfl rfl rfl rfl rfl (A8 rfl rfl rfl rfl rfl .nil)))) ?_
  try refine A2 ?_
  exact A9 rfl rfl (.tmp (kn rfl) (.tmp (kn rfl) (.nil))) (Imp.refl _) rfl
 have e3:=of_decide_eq_false h3
 have ea:tkA k c=0:=if_neg (by omega)
 have eb:tkB k c=0:=if_neg (by omega)
 rw[ea,eb]
 try refine A2 ?_
 refine A0 (A8 rfl rfl rfl rfl rfl (A8 rfl rfl rfl rfl rfl .nil)) ?_
 try refine A2 ?_
 exact A9 rfl rfl (.tmp (kn rfl) (.tmp (kn rfl) (.nil))) (Imp.refl _) rfl
theorem LU{a b:List Int}{k:Nat}{p q:Int}(h:a.take k=b.take k)(hp:a[k]?=some p)(hq:b[k]?=some q):a.take (k+1)=b.take (k+1)↔p=q:=by
 rw[List.take_add_one,List.take_add_one,h,hp,hq]
 simp
theorem KW(a b:List Int)(ha:a.length<=1000000)(hb:b.length<=1000000):EF Try.prog [] 29 [.one (zsD a),.one (zsD b)] (.part (bP (decide (a=b)))):=by
 refine AI 26 Try.func29 rfl rfl rfl fun w D=>?_
 try refine A2 ?_
 refine A0 (A8 rfl rfl rfl rfl rfl .nil) ?_
 try refine A2 ?_
 refine A0 (A5 rfl rfl rfl rfl rfl (A3 rfl rfl rfl (AF rfl (kn rfl) sle_22) (A5 rfl rfl rfl rfl rfl (A3 rfl rfl rfl (AF rfl (kn rfl) sle_22) (A3 rfl rfl rfl (A4 rfl (kn rfl) (kn rfl) EN) .nil))))) ?_
 try refine A2 ?_
 refine AA rfl (fun h=>?_) (fun h=>?_)
 ·try refine A2 ?_
  refine A0 (A8 rfl rfl rfl rfl rfl .nil) ?_
  try refine A2 ?_
  exact A9 rfl rfl (.tmp (kn rfl) (.nil)) (D2 (decide_eq_false fun e=>by subst e;simp at h).symm) rfl
 have hl:a.length=b.length:=by
  simp only[Bool.not_eq_false',decide_eq_true_eq]at h
  omega
 try refine A2 ?_
 refine A0 (A5 rfl rfl rfl rfl rfl (A3 rfl rfl rfl (AF rfl (kn rfl) sle_22) (A5 rfl rfl rfl rfl rfl .nil))) ?_
 try refine A2 ?_
 refine BK (ι:={ i:Nat // i<=a.length/\a.take i=b.take i })
  (fun i=>[(0,.part (.one (zsD a))),(1,.part (.one (zsD b))),(12,zI (a.length:Int)),(13,zI (i.1:Int))])
  (fun _=>[]) (fun _=>[]) (fun i=>a.length-i.1) ⟨0,Nat.zero_le _,rfl⟩
  (fun K=>AT ⟨s_t,s_t,s_t,s_t,trivial⟩ trivial trivial) ?_
 rintro⟨i,hi,ht⟩
 dsimp only at hi ht ⊢
 try refine A2 ?_
 refine A0 (A3 rfl rfl rfl (A4 rfl (kn rfl) (kn rfl) CK) .nil) ?_
 try refine A2 ?_
 refine AA rfl (fun h=>?_) (fun h=>?_)
 ·have hlt:=ltd h
  obtain⟨p,hp⟩:∃ p,a[i]?=some p:=⟨_,List.getElem?_eq_getElem hlt⟩
  obtain⟨q,hq⟩:∃ q,b[i]?=some q:=⟨_,List.getElem?_eq_getElem (by omega)⟩
  have he:=LU ht hp hq
  try refine A2 ?_
  refine A0 (A5 rfl rfl rfl rfl rfl (A8 rfl rfl rfl rfl rfl .nil)) ?_
  try refine A2 ?_
  refine C0 C9 (by kernel_rfl) (A5 rfl rfl rfl rfl rfl (A5 rfl rfl rfl rfl rfl (A3 rfl rfl rfl (AQ rfl (kn rfl) (kn rfl) (by omega) hp AR sle_22 esz_22 rfl) (A3 rfl rfl rfl (AH rfl (kn rfl) one_3) (A5 rfl rfl rfl rfl rfl (A5 rfl rfl rfl rfl rfl (A3 rfl rfl rfl (AQ rfl (kn rfl) (kn rfl) (by omega) hq AR sle_22 esz_22 rfl) (A3 rfl rfl rfl (AH rfl (kn rfl) one_3) (A3 rfl rfl rfl (A4 rfl (kn rfl) (kn rfl) EN) .nil))))))))) ?_
  try refine A2 ?_
  refine AA rfl (fun h1=>?_) (fun h1=>?_)
  ·try refine A2 ?_
   refine A0 (A8 rfl rfl rfl rfl rfl .nil) ?_
   try refine A2 ?_
   exact A9 rfl rfl (.tmp (kn rfl) (.nil)) (D2 (decide_eq_false fun e=>by subst e;have e1:=hp.symm.trans hq;injection e1 with e1;simp[e1]at h1).symm) rfl
  have h2:p=q:=by simpa using h1
  try refine A2 ?_
  refine A0 (A3 rfl rfl rfl (A4 rfl (kn rfl) (kn rfl) (AP (by first | omega | (dsimp only;omega)))) (A5 rfl rfl rfl rfl rfl .nil)) ?_
  try refine A2 ?_
  refine AX ⟨i+1,by omega,he.2 h2⟩ (by dsimp only;omega) (fun K=>AT ⟨s_t,s_t,s_t,s_t,trivial⟩ trivial trivial)
 rw[List.take_of_length_le (ltf h),List.take_of_length_le (by have:=ltf h;omega)]at ht
 try refine A2 ?_
 refine A0 (A8 rfl rfl rfl rfl rfl .nil) ?_
 try refine A2 ?_
 exact A9 rfl rfl (.tmp (kn rfl) (.nil)) (D2 (decide_eq_true ht).symm) rfl
theorem K1{k c:Int}{a b:List Int}(hr:BQ (k,c)=true)(hA:tkA k c<=(a.length:Int))(hB:tkB k c<=(b.length:Int))(h1:k=1->a.take (tkA k c).toNat=b.take (tkB k c).toNat):mvs (List.replicate c.toNat k) (a,b)=some (a.drop (tkA k c).toNat,b.drop (tkB k c).toNat):=by
 obtain⟨⟨k1,k2⟩,k3⟩:=BG.1 hr
 simp only at k1 k2 k3
 by_cases e1:k=1
 ·have ea:tkA k c=c:=if_pos (.inl e1)
  have eb:tkB k c=c:=if_pos (.inl e1)
  rw[ea,eb]at h1 ⊢
  rw[ea]at hA
  rw[eb]at hB
  subst e1
  rw[F5,if_pos ⟨by omega,by omega,h1 rfl⟩]
 ·by_cases e2:k=2
  ·have ea:tkA k c=c:=if_pos (.inr e2)
   have eb:tkB k c=0:=if_neg (by omega)
   rw[ea,eb]
   rw[ea]at hA
   subst e2
   rw[FZ,if_pos (by omega)]
   rfl
  ·have e3:k=3:=by omega
   have ea:tkA k c=0:=if_neg (by omega)
   have eb:tkB k c=c:=if_pos (.inr e3)
   rw[ea,eb]
   rw[eb]at hB
   subst e3
   rw[FW,if_pos (by omega)]
   rfl
theorem H7{k c:Int}{a b:List Int}(hr:BQ (k,c)=true)(h:(a.length:Int)<tkA k c\/(b.length:Int)<tkB k c\/(k=1/\a.take (tkA k c).toNat≠b.take (tkB k c).toNat)):mvs (List.replicate c.toNat k) (a,b)=none:=by
 obtain⟨⟨k1,k2⟩,k3⟩:=BG.1 hr
 simp only at k1 k2 k3
 by_cases e1:k=1
 ·have ea:tkA k c=c:=if_pos (.inl e1)
  have eb:tkB k c=c:=if_pos (.inl e1)
  rw[ea,eb]at h
  subst e1
  rw[F5,if_neg fun h2=>?_]
  rcases h with h | h | h
  ·omega
  ·omega
  ·exact h.2 h2.2.2
 ·by_cases e2:k=2
  ·have ea:tkA k c=c:=if_pos (.inr e2)
   have eb:tkB k c=0:=if_neg (by omega)
   rw[ea,eb]at h
   subst e2
   rw[FZ,if_neg (by omega)]
  ·have e3:k=3:=by omega
   have ea:tkA k c=0:=if_neg (by omega)
   have eb:tkB k c=c:=if_pos (.inr e3)
   rw[ea,eb]at h
   subst e3
   rw[FW,if_neg (by omega)]
theorem NH{k c:Int}(h:1<=c):0<=tkA k c/\0<=tkB k c:=by
 unfold tkA tkB
 constructor<;>split<;>omega
theorem zz{a b:Int}(h:decide (a<b)=false):b<=a:=by have:=of_decide_eq_false h;omega
set_option maxHeartbeats 1000000 in
theorem K4(rs:List Rn)(a b:List Int)(hrs:rs.length<=1000000)(ha:a.length<=1000000)(hb:b.length<=1000000):EF Try.prog [] 20 [.one (C3 rs),.one (zsD a),.one (zsD b)] (.part (bP (CV rs a b))):=by
 refine AI 65 Try.func20 rfl rfl rfl fun w D=>?_
 try refine A2 ?_
 refine A0 (A8 rfl rfl rfl rfl rfl .nil) ?_
 try refine A2 ?_
 refine A0 (A5 rfl rfl rfl rfl rfl (A3 rfl rfl rfl (AF rfl (kn rfl) sle_28) (A5 rfl rfl rfl rfl rfl .nil))) ?_
 try refine A2 ?_
 refine BK (ι:={ t:Nat×List Int×List Int // t.1<=rs.length/\t.2.1.length<=1000000/\t.2.2.length<=1000000/\CV rs a b=CV (rs.drop t.1) t.2.1 t.2.2 })
  (fun t=>[(1,.part (.one (zsD t.1.2.1))),(2,.part (.one (zsD t.1.2.2))),(11,.part (.one (C3 rs))),(12,zI (rs.length:Int)),(13,zI (t.1.1:Int))])
  (fun _=>[]) (fun _=>[]) (fun t=>rs.length-t.1.1) ⟨(0,a,b),by dsimp only;omega,ha,hb,rfl⟩
  (fun K=>AT ⟨s_t,s_t,s_t,s_t,s_t,trivial⟩ trivial trivial) ?_
 clear ha hb
 rintro⟨⟨i,a',b'⟩,hi,ha,hb,hw⟩
 dsimp only at hi ha hb hw ⊢
 try refine A2 ?_
 refine A0 (A3 rfl rfl rfl (A4 rfl (kn rfl) (kn rfl) CK) .nil) ?_
 try refine A2 ?_
 refine AA rfl (fun h=>?_) (fun h=>?_)
 ·obtain⟨⟨k,c⟩,hp⟩:∃ p,rs[i]?=some p:=⟨_,List.getElem?_eq_getElem (ltd h)⟩
  have hlt:=ltd h
  have htk:=L6 k c
  have hri:=HB (k,c)
  rw[M2 hp]at hw
  try refine A2 ?_
  refine AK ?_
  refine AO (AQ rfl (kn rfl) (kn rfl) (by omega) hp BM sle_28 esz_28 rfl) ?_
  refine AO (B3 rfl (kn rfl) agg_45 sz_45) ?_
  refine CS 8 [.is (.int .i64 0),.is (.int .i64 0)] rfl rfl rfl rfl zr_45 (fun w D M V=>⟨rfl,fun j x v h1 h2=>CQ _ h1 h2 rfl⟩) rfl rfl rfl rfl ?_
  refine C8 rfl rfl rfl (kn rfl) rfl (kn rfl) rfl rfl sz_45 ?_
  refine AB ?_
  try refine A2 ?_
  refine A0 (A3 rfl rfl rfl (BH (ds:=[_,_]) 2 rfl (kn rfl) rfl rfl agg_45 sz_45 rfl) (A3 rfl rfl rfl (AJ rfl (by kernel_rfl) (htk) ⟨(kn rfl),trivial⟩) (A5 rfl rfl rfl rfl rfl (A3 rfl rfl rfl (AV rfl (kn rfl) rfl) (A3 rfl rfl rfl (AV rfl (kn rfl) rfl) (A8 rfl rfl rfl rfl rfl (A8 rfl rfl rfl rfl rfl .nil))))))) ?_
  try refine A2 ?_
  refine A0 (A3 rfl rfl rfl (BH (ds:=[_,_]) 2 rfl (kn rfl) rfl rfl agg_45 sz_45 rfl) (A3 rfl rfl rfl (AJ rfl (by kernel_rfl) (hri) ⟨(kn rfl),trivial⟩) (A3 rfl rfl rfl (D1 rfl (kn rfl)) (A5 rfl rfl rfl rfl rfl (Walk.gd _ rfl rfl rfl (fun h=>A7 rfl (kn rfl)) (Walk.gd _ rfl rfl rfl (fun h=>A7 rfl (kn rfl)) (Walk.gd _ rfl rfl rfl (fun h=>AF rfl (A1 rfl h) sle_22) (Walk.gd _ rfl rfl rfl (fun h=>A4 rfl (A1 rfl h) (A1 rfl h) CC) (A3 rfl rfl rfl (EC rfl (kn rfl) (fun hb=>A1 rfl hb)) (A5 rfl rfl rfl rfl rfl (Walk.gd _ rfl rfl rfl (fun h=>A7 rfl (kn rfl)) (Walk.gd _ rfl rfl rfl (fun h=>A7 rfl (kn rfl)) (Walk.gd _ rfl rfl rfl (fun h=>AF rfl (A1 rfl h) sle_22) (Walk.gd _ rfl rfl rfl (fun h=>A4 rfl (A1 rfl h) (A1 rfl h) CC) (A3 rfl rfl rfl (EC rfl (kn rfl) (fun hb=>A1 rfl hb)) .nil))))))))))))))) ?_
  try refine A2 ?_
  refine AA rfl (fun h1=>?_) (fun h1=>?_)
  ·have hf:CV ((k,c)::rs.drop (i+1)) a' b'=false:=by
    cases hr:BQ (k,c)with
    | false=>exact LQ hr
    | true=>
     refine HI (H7 hr ?_)
     rw[hr]at h1
     simp only[Bool.not_true,Bool.false_or,Bool.or_eq_true,decide_eq_true_eq]at h1
     rcases h1 with h1 | h1
     ·exact .inl h1
     ·exact .inr (.inl h1)
   try refine A2 ?_
   refine A0 (A8 rfl rfl rfl rfl rfl .nil) ?_
   try refine A2 ?_
   exact A9 rfl rfl (.tmp (kn rfl) (.nil)) (D2 (by rw[hw,hf])) rfl
  rw[Bool.or_eq_false_iff,Bool.or_eq_false_iff]at h1
  have hr:BQ (k,c)=true:=by simpa using h1.1.1
  have hA:=zz h1.1.2
  have hB:=zz h1.2
  have hnn:=NH (k:=k) (c:=c) (BG.1 hr).2
  have heq:=KW (a'.take (tkA k c).toNat) (b'.take (tkB k c).toNat) (by rw[List.length_take];omega) (by rw[List.length_take];omega)
  try refine A2 ?_
  refine C0 C9 (by kernel_rfl) (A3 rfl rfl rfl (AE rfl (kn rfl) off_45_0) (A3 rfl rfl rfl (AD rfl (kn rfl) rfl rfl one_3) (A3 rfl rfl rfl (A4 rfl (kn rfl) (kn rfl) B5) (A5 rfl rfl rfl rfl rfl (Walk.gd _ rfl rfl rfl (fun h=>A7 rfl (kn rfl)) (Walk.gd _ rfl rfl rfl (fun h=>A7 rfl (kn rfl)) (Walk.gd _ rfl rfl rfl (fun h=>ER rfl (A1 rfl h) (A1 rfl h) ⟨hnn.1,hA⟩ AR sle_22 esz_22) (Walk.gd _ rfl rfl rfl (fun h=>A7 rfl (kn rfl)) (Walk.gd _ rfl rfl rfl (fun h=>A7 rfl (kn rfl)) (Walk.gd _ rfl rfl rfl (fun h=>ER rfl (A1 rfl h) (A1 rfl h) ⟨hnn.2,hB⟩ AR sle_22 esz_22) (Walk.gd _ rfl rfl rfl (fun h=>AJ rfl (by kernel_rfl) (heq) ⟨(A1 rfl h),⟨(A1 rfl h),trivial⟩⟩) (Walk.gd _ rfl rfl rfl (fun h=>D1 rfl (A1 rfl h)) (A3 rfl rfl rfl (BC rfl (kn rfl) (fun hb=>A1 rfl hb)) .nil))))))))))))) ?_
  try refine A2 ?_
  refine AA rfl (fun h2=>?_) (fun h2=>?_)
  ·have hno:=H7 (a:=a') (b:=b') hr (.inr (.inr ⟨of_decide_eq_true (gl h2),by simpa using gr h2⟩))
   try refine A2 ?_
   refine A0 (A8 rfl rfl rfl rfl rfl .nil) ?_
   try refine A2 ?_
   exact A9 rfl rfl (.tmp (kn rfl) (.nil)) (D2 (by rw[hw,HI hno])) rfl
  have hgo:=K1 (a:=a') (b:=b') hr hA hB fun e=>by
   rw[decide_eq_true e,Bool.true_and]at h2
   simpa using h2
  have hw2:=MS (p:=(k,c)) (r:=rs.drop (i+1)) hr hgo
  try refine A2 ?_
  refine C0 C9 (by kernel_rfl) (A5 rfl rfl rfl rfl rfl (A5 rfl rfl rfl rfl rfl (A3 rfl rfl rfl (AW rfl (kn rfl) (kn rfl) (by omega) AR sle_22 esz_22) (A5 rfl rfl rfl rfl rfl (A5 rfl rfl rfl rfl rfl (A3 rfl rfl rfl (AW rfl (kn rfl) (kn rfl) (by omega) AR sle_22 esz_22) (A8 rfl rfl rfl rfl rfl (A8 rfl rfl rfl rfl rfl .nil)))))))) ?_
  try refine A2 ?_
  refine A0 (A3 rfl rfl rfl (A4 rfl (kn rfl) (kn rfl) (AP (by first | omega | (dsimp only;omega)))) (A5 rfl rfl rfl rfl rfl .nil)) ?_
  try refine A2 ?_
  refine AX ⟨(i+1,a'.drop (tkA k c).toNat,b'.drop (tkB k c).toNat),by dsimp only;omega,by dsimp only;rw[List.length_drop];omega,by dsimp only;rw[List.length_drop];omega,by dsimp only;rw[hw,hw2]⟩ (by dsimp only;omega) (fun K=>AT ⟨s_t,s_t,s_t,s_t,s_t,trivial⟩ trivial trivial)
 rw[List.drop_eq_nil_of_le (ltf h),LG]at hw
 try refine A2 ?_
 refine A0 (A5 rfl rfl rfl rfl rfl (A3 rfl rfl rfl (AF rfl (kn rfl) sle_22) (A3 rfl rfl rfl (A4 rfl (kn rfl) (kn rfl) B5) (A5 rfl rfl rfl rfl rfl (Walk.gd _ rfl rfl rfl (fun h=>A7 rfl (kn rfl)) (Walk.gd _ rfl rfl rfl (fun h=>AF rfl (A1 rfl h) sle_22) (Walk.gd _ rfl rfl rfl (fun h=>A4 rfl (A1 rfl h) (kn rfl) B5) (A3 rfl rfl rfl (BC rfl (kn rfl) (fun hb=>A1 rfl hb)) (A8 rfl rfl rfl rfl rfl .nil))))))))) ?_
 try refine A2 ?_
 exact A9 rfl rfl (.tmp (kn rfl) (.nil)) (D2 (by rw[hw];congr 1<;>exact decide_eq_decide.2 (by omega))) rfl
theorem MN(p:Rn):0<=edR p/\edR p<=1048576:=by
 unfold edR
 split
 ·rename_i h
  simp only[Bool.and_eq_true,decide_eq_true_eq]at h
  have:=BG.1 h.1.1
  omega
 ·omega
theorem JV(r:List Rn):∀ i,0<=CB edR (r.take i)/\CB edR (r.take i)<=1048576*(i:Int)
 | 0=>by simp[CB]
 | i+1=>by
  have ih:=JV r i
  cases h:r[i]? with
  | none=>
   rw[List.take_add_one,h,Option.toList_none,List.append_nil]
   omega
  | some p=>
   rw[G1 h]
   have:=MN p
   omega
theorem H3(r:List Rn)(hr:r.length<=1000000):EF Try.prog [] 18 [.one (C3 r)] (.part (zP (CB edR r))):=by
 refine AI 30 Try.func18 rfl rfl rfl fun w D=>?_
 try refine A2 ?_
 refine A0 (A8 rfl rfl rfl rfl rfl .nil) ?_
 try refine A2 ?_
 refine A0 (A8 rfl rfl rfl rfl rfl .nil) ?_
 try refine A2 ?_
 refine A0 (A5 rfl rfl rfl rfl rfl (A3 rfl rfl rfl (AF rfl (kn rfl) sle_28) (A5 rfl rfl rfl rfl rfl .nil))) ?_
 try refine A2 ?_
 refine BK (ι:={ i:Nat // i<=r.length })
  (fun i=>[(3,zI (CB edR (r.take i.1))),(6,.part (.one (C3 r))),(7,zI (r.length:Int)),(8,zI (i.1:Int))])
  (fun _=>[]) (fun _=>[]) (fun i=>r.length-i.1) ⟨0,Nat.zero_le _⟩
  (fun K=>AT ⟨s_t,s_t,s_t,s_t,trivial⟩ trivial trivial) ?_
 rintro⟨i,hi⟩
 dsimp only at hi ⊢
 have hbd:=JV r i
 try refine A2 ?_
 refine A0 (A3 rfl rfl rfl (A4 rfl (kn rfl) (kn rfl) CK) .nil) ?_
 try refine A2 ?_
 refine AA rfl (fun h=>?_) (fun h=>?_)
 ·have hlt:=ltd h
  obtain⟨⟨k,c⟩,hp⟩:∃ p,r[i]?=some p:=⟨_,List.getElem?_eq_getElem hlt⟩
  have hst:=G1 (f:=edR) hp
  have hri:=HB (k,c)
  try refine A2 ?_
  refine AK ?_
  refine AO (AQ rfl (kn rfl) (kn rfl) (by omega) hp BM sle_28 esz_28 rfl) ?_
  refine AO (B3 rfl (kn rfl) agg_45 sz_45) ?_
  refine CS 5 [.is (.int .i64 0),.is (.int .i64 0)] rfl rfl rfl rfl zr_45 (fun w D M V=>⟨rfl,fun j x v h1 h2=>CQ _ h1 h2 rfl⟩) rfl rfl rfl rfl ?_
  refine C8 rfl rfl rfl (kn rfl) rfl (kn rfl) rfl rfl sz_45 ?_
  refine AB ?_
  try refine A2 ?_
  refine A0 (A3 rfl rfl rfl (BH (ds:=[_,_]) 2 rfl (kn rfl) rfl rfl agg_45 sz_45 rfl) (A3 rfl rfl rfl (AJ rfl (by kernel_rfl) (hri) ⟨(kn rfl),trivial⟩) (A5 rfl rfl rfl rfl rfl (Walk.gd _ rfl rfl rfl (fun h=>AE rfl (kn rfl) off_45_0) (Walk.gd _ rfl rfl rfl (fun h=>AD rfl (A1 rfl h) rfl rfl one_3) (Walk.gd _ rfl rfl rfl (fun h=>A4 rfl (A1 rfl h) (kn rfl) EN) (A3 rfl rfl rfl (BC rfl (kn rfl) (fun hb=>A1 rfl hb)) (A5 rfl rfl rfl rfl rfl (Walk.gd _ rfl rfl rfl (fun h=>AE rfl (kn rfl) off_45_1) (Walk.gd _ rfl rfl rfl (fun h=>AD rfl (A1 rfl h) rfl rfl one_3) (Walk.gd _ rfl rfl rfl (fun h=>A4 rfl (A1 rfl h) (kn rfl) FC) (A3 rfl rfl rfl (BC rfl (kn rfl) (fun hb=>A1 rfl hb)) .nil)))))))))))) ?_
  try refine A2 ?_
  refine AA rfl (fun h1=>?_) (fun h1=>?_)
  ·have hk:edR (k,c)=c:=if_pos h1
   have hc:c<=1048576:=of_decide_eq_true (gr h1)
   have hc1:1<=c:=(BG.1 (gl (gl h1))).2
   try refine A2 ?_
   refine A0 (A5 rfl rfl rfl rfl rfl (A3 rfl rfl rfl (AE rfl (kn rfl) off_45_1) (A3 rfl rfl rfl (AD rfl (kn rfl) rfl rfl one_3) (A3 rfl rfl rfl (A4 rfl (kn rfl) (kn rfl) (AP (by first | omega | (dsimp only;omega)))) (A8 rfl rfl rfl rfl rfl .nil))))) ?_
   try refine A2 ?_
   refine A0 (A3 rfl rfl rfl (A4 rfl (kn rfl) (kn rfl) (AP (by first | omega | (dsimp only;omega)))) (A5 rfl rfl rfl rfl rfl .nil)) ?_
   try refine A2 ?_
   refine AX ⟨i+1,hlt⟩ (by dsimp only;omega) (fun K=>AT ⟨s_z rfl (by dsimp only;rw[hst,hk]),s_t,s_t,s_t,trivial⟩ trivial trivial)
  ·have hk:edR (k,c)=0:=if_neg (by rw[h1];decide)
   try refine A2 ?_
   refine A0 (A3 rfl rfl rfl (A4 rfl (kn rfl) (kn rfl) (AP (by first | omega | (dsimp only;omega)))) (A5 rfl rfl rfl rfl rfl .nil)) ?_
   try refine A2 ?_
   refine AX ⟨i+1,hlt⟩ (by dsimp only;omega) (fun K=>AT ⟨s_z rfl (by dsimp only;rw[hst,hk,Int.add_zero]),s_t,s_t,s_t,trivial⟩ trivial trivial)
 rw[List.take_of_length_le (ltf h)]
 try refine A2 ?_
 refine A0 (A5 rfl rfl rfl rfl rfl (A8 rfl rfl rfl rfl rfl .nil)) ?_
 try refine A2 ?_
 exact A9 rfl rfl (.tmp (kn rfl) (.nil)) (Imp.refl _) rfl
theorem N7{p q:Rn}:CI Try.prog .neq 39 (.agg #[.int .i64 p.1,.int .i64 p.2]) (.agg #[.int .i64 q.1,.int .i64 q.2]) (.bool (!decide (p=q))):=by
 have h:=L9 (P:=Try.prog) (t:=39) (cs:=[.int .i64 p.1,.int .i64 p.2]) (ds:=[.int .i64 q.1,.int .i64 q.2]) (by kernel_rfl) (by kernel_rfl) (by kernel_rfl) (GQ (ks:=[false,false]) (by kernel_rfl) (.int _ _ _ (.int _ _ _ .nil)))
 have e:HA ([Value.int .i64 p.1,Value.int .i64 p.2]=[Value.int .i64 q.1,Value.int .i64 q.2])=decide (p=q):=by
  have h1:([Value.int .i64 p.1,Value.int .i64 p.2]=[Value.int .i64 q.1,Value.int .i64 q.2])↔p=q:=by
   constructor
   ·intro h
    injection h with h1 h2
    injection h1 with _ h1
    injection h2 with h2 _
    injection h2 with _ h2
    exact Prod.ext h1 h2
   ·rintro rfl
    rfl
  by_cases hp:p=q
  ·rw[decide_eq_true hp]
   simp[HA,h1,hp]
  ·rw[decide_eq_false hp]
   simp[HA,h1,hp]
 rwa [e]at h
theorem KS{a b:List Rn}{k:Nat}{p q:Rn}(h:a.take k=b.take k)(hp:a[k]?=some p)(hq:b[k]?=some q):a.take (k+1)=b.take (k+1)↔p=q:=by
 rw[List.take_add_one,List.take_add_one,h,hp,hq]
 simp
theorem IR(a b:List Rn)(ha:a.length<=10000000)(hb:b.length<=10000000):EF Try.prog [] 10 [.one (C3 a),.one (C3 b)] (.part (bP (decide (a=b)))):=by
 refine AI 26 Try.func10 rfl rfl rfl fun w D=>?_
 try refine A2 ?_
 refine A0 (A8 rfl rfl rfl rfl rfl .nil) ?_
 try refine A2 ?_
 refine A0 (A5 rfl rfl rfl rfl rfl (A3 rfl rfl rfl (AF rfl (kn rfl) sle_28) (A5 rfl rfl rfl rfl rfl (A3 rfl rfl rfl (AF rfl (kn rfl) sle_30) (A3 rfl rfl rfl (A4 rfl (kn rfl) (kn rfl) EN) .nil))))) ?_
 try refine A2 ?_
 refine AA rfl (fun h=>?_) (fun h=>?_)
 ·try refine A2 ?_
  refine A0 (A8 rfl rfl rfl rfl rfl .nil) ?_
  try refine A2 ?_
  exact A9 rfl rfl (.tmp (kn rfl) (.nil)) (D2 (decide_eq_false fun e=>by subst e;simp at h).symm) rfl
 have hl:a.length=b.length:=by
  simp only[Bool.not_eq_false',decide_eq_true_eq]at h
  omega
 try refine A2 ?_
 refine A0 (A5 rfl rfl rfl rfl rfl (A3 rfl rfl rfl (AF rfl (kn rfl) sle_28) (A5 rfl rfl rfl rfl rfl .nil))) ?_
 try refine A2 ?_
 refine BK (ι:={ i:Nat // i<=a.length/\a.take i=b.take i })
  (fun i=>[(1,.part (.one (C3 b))),(12,.part (.one (C3 a))),(13,zI (a.length:Int)),(14,zI (i.1:Int))])
  (fun _=>[]) (fun _=>[]) (fun i=>a.length-i.1) ⟨0,Nat.zero_le _,rfl⟩
  (fun K=>AT ⟨s_t,s_t,s_t,s_t,trivial⟩ trivial trivial) ?_
 rintro⟨i,hi,ht⟩
 dsimp only at hi ht ⊢
 try refine A2 ?_
 refine A0 (A3 rfl rfl rfl (A4 rfl (kn rfl) (kn rfl) CK) .nil) ?_
 try refine A2 ?_
 refine AA rfl (fun h=>?_) (fun h=>?_)
 ·have hlt:=ltd h
  obtain⟨p,hp⟩:∃ p,a[i]?=some p:=⟨_,List.getElem?_eq_getElem hlt⟩
  obtain⟨q,hq⟩:∃ q,b[i]?=some q:=⟨_,List.getElem?_eq_getElem (by omega)⟩
  have he:=KS ht hp hq
  try refine A2 ?_
  refine AK ?_
  refine AM ?_
  refine AO (AQ rfl (kn rfl) (kn rfl) (by omega) hp BM sle_28 esz_28 rfl) ?_
  refine AO (B3 rfl (kn rfl) agg_45 sz_45) ?_
  refine CS 6 [.is (.int .i64 0),.is (.int .i64 0)] rfl rfl rfl rfl zr_45 (fun w D M V=>⟨rfl,fun j x v h1 h2=>CQ _ h1 h2 rfl⟩) rfl rfl rfl rfl ?_
  refine BA ?_
  refine C8 rfl rfl rfl (kn rfl) rfl (kn rfl) rfl rfl sz_45 ?_
  refine AB ?_
  try refine A2 ?_
  refine C0 C9 (by kernel_rfl) (A3 rfl rfl rfl (BH (ds:=[_,_]) 2 rfl (kn rfl) rfl rfl agg_45 sz_45 rfl) (A5 rfl rfl rfl rfl rfl (A5 rfl rfl rfl rfl rfl (A3 rfl rfl rfl (AQ rfl (kn rfl) (kn rfl) (by omega) hq BM sle_30 esz_30 rfl) (A3 rfl rfl rfl (B3 rfl (kn rfl) agg_39 sz_39) (A3 rfl rfl rfl (MV (cs:=[.int .i64 p.1,.int .i64 p.2]) (ds:=[.int .i64 q.1,.int .i64 q.2]) rfl (kn rfl) (kn rfl) N7) .nil)))))) ?_
  try refine A2 ?_
  refine AA rfl (fun h1=>?_) (fun h1=>?_)
  ·try refine A2 ?_
   refine A0 (A8 rfl rfl rfl rfl rfl .nil) ?_
   try refine A2 ?_
   exact A9 rfl rfl (.tmp (kn rfl) (.nil)) (D2 (decide_eq_false fun e=>by subst e;have e1:=hp.symm.trans hq;injection e1 with e1;simp[e1]at h1).symm) rfl
  have h2:p=q:=by simpa using h1
  try refine A2 ?_
  refine A0 (A3 rfl rfl rfl (A4 rfl (kn rfl) (kn rfl) (AP (by first | omega | (dsimp only;omega)))) (A5 rfl rfl rfl rfl rfl .nil)) ?_
  try refine A2 ?_
  refine AX ⟨i+1,by omega,he.2 h2⟩ (by dsimp only;omega) (fun K=>AT ⟨s_t,s_t,s_t,s_t,trivial⟩ trivial trivial)
 rw[List.take_of_length_le (ltf h),List.take_of_length_le (by have:=ltf h;omega)]at ht
 try refine A2 ?_
 refine A0 (A8 rfl rfl rfl rfl rfl .nil) ?_
 try refine A2 ?_
 exact A9 rfl rfl (.tmp (kn rfl) (.nil)) (D2 (decide_eq_true ht).symm) rfl
def MX(l:List Rn):Prop:=∀ p∈l,p.2<=200
theorem IN{l:List Rn}{i:Nat}{k c:Int}(h:l[i]?=some (k,c)):(l.take i).flatMap rnD++[zC k,zC c]=(l.take (i+1)).flatMap rnD:=by
 rw[List.take_add_one,h]
 exact GO _ _ _
theorem IJ{l:List Rn}{i:Nat}{p:Rn}(h:l[i]?=some p):(l.take i).length+1=(l.take (i+1)).length:=by
 rw[List.take_add_one,h]
 simp
theorem MI(l:List Rn)(hl:l.length<=8796093022208)(hf:MX l):EF Try.prog [] 15 [.one (C3 l)] (.tup [.one (C3 l),bP (decide ((l.length:Int)<=40))]):=by
 refine AI 26 Try.func15 rfl rfl rfl fun w D=>?_
 try refine A2 ?_
 refine A0 (A8 rfl rfl rfl rfl rfl (A8 rfl rfl rfl rfl rfl .nil)) ?_
 try refine A2 ?_
 refine AK ?_
 refine JX 1000 rfl rfl rfl rfl sl_30 ap_30 rfl rfl ?_
 refine BA ?_
 refine AB ?_
 try refine A2 ?_
 refine A0 (A5 rfl rfl rfl rfl rfl (A3 rfl rfl rfl (AF rfl (kn rfl) sle_28) (A5 rfl rfl rfl rfl rfl .nil))) ?_
 try refine A2 ?_
 refine BK (ι:={ i:Nat // i<=l.length /\ ∀ p∈l.take i,p.2<=200 })
  (fun i=>[(0,.part (.one (C3 l))),(4,.own 1000),(8,.part (.one (C3 l))),(9,zI (l.length:Int)),(10,zI (i.1:Int))])
  (fun _=>[]) (fun i=>[(1000,⟨39,2,(l.take i.1).length,(l.take i.1).flatMap rnD,false⟩)]) (fun i=>l.length-i.1) ⟨0,Nat.zero_le _,fun p hp=>by simp at hp⟩
  (fun K=>AT ⟨s_t,s_t,s_t,s_t,s_t,trivial⟩ trivial ⟨rfl,trivial⟩) ?_
 rintro⟨i,hi,hall⟩
 dsimp only at hi hall ⊢
 have hlt2:(l.take i).length<=i:=by rw[List.length_take];omega
 try refine A2 ?_
 refine A0 (A3 rfl rfl rfl (A4 rfl (kn rfl) (kn rfl) CK) .nil) ?_
 try refine A2 ?_
 refine AA rfl (fun h=>?_) (fun h=>?_)
 ·have hlt:=ltd h
  obtain⟨⟨k,c⟩,hp⟩:∃ p,l[i]?=some p:=⟨_,List.getElem?_eq_getElem hlt⟩
  have hln:=IJ hp
  have hrn:=IN hp
  try refine A2 ?_
  refine AK ?_
  refine AO (AQ rfl (kn rfl) (kn rfl) (by omega) hp BM sle_28 esz_28 rfl) ?_
  refine AO (B3 rfl (kn rfl) agg_45 sz_45) ?_
  refine CS 6 [.is (.int .i64 0),.is (.int .i64 0)] rfl rfl rfl rfl zr_45 (fun w D M V=>⟨rfl,fun j x v h1 h2=>CQ _ h1 h2 rfl⟩) rfl rfl rfl rfl ?_
  refine C8 rfl rfl rfl (kn rfl) rfl (kn rfl) rfl rfl sz_45 ?_
  refine AB ?_
  try refine A2 ?_
  refine AK ?_
  refine AM ?_
  refine AO (BH (ds:=[_,_]) 2 rfl (kn rfl) rfl rfl agg_45 sz_45 rfl) ?_
  refine AO (AN (ds:=[_,_]) [(0,_)] rfl ⟨rfl,(kn rfl),trivial⟩ rfl sl_30 sz_39 zr_39 (fun w D=>.cons (.cell _) (.cons (.cell _) (.nil _ _))) rfl rfl rfl rfl rfl) ?_
  refine CA rfl rfl rfl rfl (kn rfl) rfl (kn rfl) sl_30 ap_30 rfl rfl (by omega) (by omega) ?_
  refine E5 hln hrn ?_
  refine BA ?_
  refine AB ?_
  try refine A2 ?_
  refine A0 (A3 rfl rfl rfl (AE rfl (kn rfl) off_45_1) (A3 rfl rfl rfl (AD rfl (kn rfl) rfl rfl one_3) (A3 rfl rfl rfl (A4 rfl (kn rfl) (kn rfl) CC) .nil))) ?_
  try refine A2 ?_
  refine AA rfl (fun h1=>?_) (fun h1=>?_)
  ·exact absurd (hf (k,c) (List.mem_of_getElem? hp)) (by have:=of_decide_eq_true h1;simp only;omega)
  have h2:=zz h1
  try refine A2 ?_
  refine A0 (A3 rfl rfl rfl (A4 rfl (kn rfl) (kn rfl) (AP (by first | omega | (dsimp only;omega)))) (A5 rfl rfl rfl rfl rfl .nil)) ?_
  try refine A2 ?_
  refine AX ⟨i+1,by omega,fun p hp'=>by
   rw[List.take_add_one,hp]at hp'
   rcases List.mem_append.1 hp' with h | h
   ·exact hall p h
   ·rw[show p=(k,c) by simpa using h]
    exact h2⟩ (by dsimp only;omega) (fun K=>AT ⟨s_t,s_t,s_t,s_t,s_t,trivial⟩ trivial ⟨rfl,trivial⟩)
 rw[List.take_of_length_le (ltf h)]at hall ⊢
 try refine A2 ?_
 refine AY 4 1000 rfl rfl rfl ?_
 refine A0 (A5 rfl rfl rfl rfl rfl (A5 rfl rfl rfl rfl rfl (A3 rfl rfl rfl (AF rfl (kn rfl) sle_28) (A3 rfl rfl rfl (A4 rfl (kn rfl) (kn rfl) FC) (A8 rfl rfl rfl rfl rfl (A8 rfl rfl rfl rfl rfl .nil)))))) ?_
 try refine A2 ?_
 exact A9 rfl rfl (.tmp (kn rfl) (.tmp (kn rfl) (.nil))) (Imp.refl _) rfl
theorem N9(l:List Rn)(hl:l.length<=8796093022208)(hf:¬ MX l):EF Try.prog [] 15 [.one (C3 l)] (.tup [.one K7,bP false]):=by
 refine AI 26 Try.func15 rfl rfl rfl fun w D=>?_
 try refine A2 ?_
 refine A0 (A8 rfl rfl rfl rfl rfl (A8 rfl rfl rfl rfl rfl .nil)) ?_
 try refine A2 ?_
 refine AK ?_
 refine JX 1000 rfl rfl rfl rfl sl_30 ap_30 rfl rfl ?_
 refine BA ?_
 refine AB ?_
 try refine A2 ?_
 refine A0 (A5 rfl rfl rfl rfl rfl (A3 rfl rfl rfl (AF rfl (kn rfl) sle_28) (A5 rfl rfl rfl rfl rfl .nil))) ?_
 try refine A2 ?_
 refine BK (ι:={ i:Nat // i<=l.length /\ ∀ p∈l.take i,p.2<=200 })
  (fun i=>[(0,.part (.one (C3 l))),(4,.own 1000),(8,.part (.one (C3 l))),(9,zI (l.length:Int)),(10,zI (i.1:Int))])
  (fun _=>[]) (fun i=>[(1000,⟨39,2,(l.take i.1).length,(l.take i.1).flatMap rnD,false⟩)]) (fun i=>l.length-i.1) ⟨0,Nat.zero_le _,fun p hp=>by simp at hp⟩
  (fun K=>AT ⟨s_t,s_t,s_t,s_t,s_t,trivial⟩ trivial ⟨rfl,trivial⟩) ?_
 rintro⟨i,hi,hall⟩
 dsimp only at hi hall ⊢
 have hlt2:(l.take i).length<=i:=by rw[List.length_take];omega
 try refine A2 ?_
 refine A0 (A3 rfl rfl rfl (A4 rfl (kn rfl) (kn rfl) CK) .nil) ?_
 try refine A2 ?_
 refine AA rfl (fun h=>?_) (fun h=>?_)
 ·have hlt:=ltd h
  obtain⟨⟨k,c⟩,hp⟩:∃ p,l[i]?=some p:=⟨_,List.getElem?_eq_getElem hlt⟩
  have hln:=IJ hp
  have hrn:=IN hp
  try refine A2 ?_
  refine AK ?_
  refine AO (AQ rfl (kn rfl) (kn rfl) (by omega) hp BM sle_28 esz_28 rfl) ?_
  refine AO (B3 rfl (kn rfl) agg_45 sz_45) ?_
  refine CS 6 [.is (.int .i64 0),.is (.int .i64 0)] rfl rfl rfl rfl zr_45 (fun w D M V=>⟨rfl,fun j x v h1 h2=>CQ _ h1 h2 rfl⟩) rfl rfl rfl rfl ?_
  refine C8 rfl rfl rfl (kn rfl) rfl (kn rfl) rfl rfl sz_45 ?_
  refine AB ?_
  try refine A2 ?_
  refine AK ?_
  refine AM ?_
  refine AO (BH (ds:=[_,_]) 2 rfl (kn rfl) rfl rfl agg_45 sz_45 rfl) ?_
  refine AO (AN (ds:=[_,_]) [(0,_)] rfl ⟨rfl,(kn rfl),trivial⟩ rfl sl_30 sz_39 zr_39 (fun w D=>.cons (.cell _) (.cons (.cell _) (.nil _ _))) rfl rfl rfl rfl rfl) ?_
  refine CA rfl rfl rfl rfl (kn rfl) rfl (kn rfl) sl_30 ap_30 rfl rfl (by omega) (by omega) ?_
  refine E5 hln hrn ?_
  refine BA ?_
  refine AB ?_
  try refine A2 ?_
  refine A0 (A3 rfl rfl rfl (AE rfl (kn rfl) off_45_1) (A3 rfl rfl rfl (AD rfl (kn rfl) rfl rfl one_3) (A3 rfl rfl rfl (A4 rfl (kn rfl) (kn rfl) CC) .nil))) ?_
  try refine A2 ?_
  refine AA rfl (fun h1=>?_) (fun h1=>?_)
  ·try refine A2 ?_
   refine A0 (A8 rfl rfl rfl rfl rfl (A8 rfl rfl rfl rfl rfl .nil)) ?_
   try refine A2 ?_
   exact A9 rfl rfl (.tmp (kn rfl) (.tmp (kn rfl) (.nil))) (Imp.refl _) rfl
  have h2:=zz h1
  try refine A2 ?_
  refine A0 (A3 rfl rfl rfl (A4 rfl (kn rfl) (kn rfl) (AP (by first | omega | (dsimp only;omega)))) (A5 rfl rfl rfl rfl rfl .nil)) ?_
  try refine A2 ?_
  refine AX ⟨i+1,by omega,fun p hp'=>by
   rw[List.take_add_one,hp]at hp'
   rcases List.mem_append.1 hp' with h | h
   ·exact hall p h
   ·rw[show p=(k,c) by simpa using h]
    exact h2⟩ (by dsimp only;omega) (fun K=>AT ⟨s_t,s_t,s_t,s_t,s_t,trivial⟩ trivial ⟨rfl,trivial⟩)
 rw[List.take_of_length_le (ltf h)]at hall ⊢
 exact absurd hall hf
theorem KR(b:List Int):edL [] b=b.length:=BB _
theorem ID(a:List Int):edL a []=a.length:=BN _
theorem KB:B4 (BR [1,2,3] [1,3,4])=[(1,1),(2,1),(1,1),(3,1)]:=by
 have h1:edL [1,2,3] [1,3,4]=2:=by simp[F4,KR,ID]
 have h2:stL [1,2,3] [1,3,4]=[1,2,1,3]:=by simp[FS,F4,KR,ID,GR,MG]
 unfold BR
 rw[h1,if_neg (by decide),h2]
 rfl
theorem LF:H5 [1] []=1:=by
 unfold H5
 rw[ID]
 rfl
theorem L3:EF Try.prog [] 7 [] (.part (bP true)):=by
 have h1:=E9 [1,2,3] [1,3,4] (by decide) (by decide)
 rw[KB]at h1
 have h2:=IR [(1,1),(2,1),(1,1),(3,1)] [(1,1),(2,1),(1,1),(3,1)] (by decide) (by decide)
 rw[decide_eq_true rfl]at h2
 have h3:=D7 [1] [] (by decide) (by decide)
 rw[LF]at h3
 refine AI 17 Try.func7 rfl rfl rfl fun w D=>?_
 try refine A2 ?_
 refine A0 (A8 rfl rfl rfl rfl rfl .nil) ?_
 try refine A2 ?_
 refine A0 (A3 rfl rfl rfl (AN (ds:=[_,_,_]) [(0,_),(1,_),(2,_)] rfl ⟨rfl,(kn rfl),⟨rfl,(kn rfl),⟨rfl,(kn rfl),trivial⟩⟩⟩ rfl sl_22 sz_3 zr_3 (fun w D=>.cons (.cell _) (.cons (.cell _) (.cons (.cell _) (.nil _ _)))) rfl rfl rfl rfl rfl) (A3 rfl rfl rfl (AN (ds:=[_,_,_]) [(0,_),(1,_),(2,_)] rfl ⟨rfl,(kn rfl),⟨rfl,(kn rfl),⟨rfl,(kn rfl),trivial⟩⟩⟩ rfl sl_22 sz_3 zr_3 (fun w D=>.cons (.cell _) (.cons (.cell _) (.cons (.cell _) (.nil _ _)))) rfl rfl rfl rfl rfl) (A3 rfl rfl rfl (AJ rfl (by kernel_rfl) (h1) ⟨(kn rfl),⟨(kn rfl),trivial⟩⟩) (A8 rfl rfl rfl rfl rfl .nil)))) ?_
 try refine A2 ?_
 refine A0 (A5 rfl rfl rfl rfl rfl (A3 rfl rfl rfl (CD (ds:=[_,_]) [(0,_),(1,_)] rfl ⟨rfl,(kn rfl),⟨rfl,(kn rfl),trivial⟩⟩ rfl pl_39 zr_39 (fun w D=>.cons (.cell _) (.cons (.cell _) (.nil _ _))) rfl) (A3 rfl rfl rfl (CD (ds:=[_,_]) [(0,_),(1,_)] rfl ⟨rfl,(kn rfl),⟨rfl,(kn rfl),trivial⟩⟩ rfl pl_39 zr_39 (fun w D=>.cons (.cell _) (.cons (.cell _) (.nil _ _))) rfl) (A3 rfl rfl rfl (CD (ds:=[_,_]) [(0,_),(1,_)] rfl ⟨rfl,(kn rfl),⟨rfl,(kn rfl),trivial⟩⟩ rfl pl_39 zr_39 (fun w D=>.cons (.cell _) (.cons (.cell _) (.nil _ _))) rfl) (A3 rfl rfl rfl (CD (ds:=[_,_]) [(0,_),(1,_)] rfl ⟨rfl,(kn rfl),⟨rfl,(kn rfl),trivial⟩⟩ rfl pl_39 zr_39 (fun w D=>.cons (.cell _) (.cons (.cell _) (.nil _ _))) rfl) (A3 rfl rfl rfl (AN (ds:=[_,_,_,_,_,_,_,_]) [(0,_),(1,_),(2,_),(3,_)] rfl ⟨rfl,(kn rfl),⟨rfl,(kn rfl),⟨rfl,(kn rfl),⟨rfl,(kn rfl),trivial⟩⟩⟩⟩ rfl sl_30 sz_39 zr_39 (fun w D=>.cons (.cell _) (.cons (.cell _) (.cons (.cell _) (.cons (.cell _) (.cons (.cell _) (.cons (.cell _) (.cons (.cell _) (.cons (.cell _) (.nil _ _))))))))) rfl rfl rfl rfl rfl) (A3 rfl rfl rfl (AJ rfl (by kernel_rfl) (h2) ⟨(kn rfl),⟨(kn rfl),trivial⟩⟩) (A5 rfl rfl rfl rfl rfl (Walk.gd _ rfl rfl rfl (fun h=>AN (ds:=[_]) [(0,_)] rfl ⟨rfl,(kn rfl),trivial⟩ rfl sl_22 sz_3 zr_3 (fun w D=>.cons (.cell _) (.nil _ _)) rfl rfl rfl rfl rfl) (Walk.gd _ rfl rfl rfl (fun h=>AJ rfl (by kernel_rfl) h3 ⟨A1 rfl h,GZ (kn rfl) (Imp.nil 1),trivial⟩) (Walk.gd _ rfl rfl rfl (fun h=>A4 rfl (A1 rfl h) (kn rfl) B5) (A3 rfl rfl rfl (BC rfl (kn rfl) (fun hb=>A1 rfl hb)) (A8 rfl rfl rfl rfl rfl .nil))))))))))))) ?_
 try refine A2 ?_
 exact A9 rfl rfl (.tmp (kn rfl) (.nil)) (D2 rfl) rfl
theorem GC{a b:List Int}(h:edL a b<=400):H5 a b=edL a b:=if_neg (by omega)
theorem HP{a b:List Int}(h:edL a b<=400):BR a b=stL a b:=if_neg (by omega)
theorem NP(l:List Int):nK l<=l.length:=List.countP_le_length
theorem MJ(a b:List Int):edL a b<=a.length+b.length:=(LC _ _).2.2
theorem gt_60{n:Nat}(h:decide ((60:Int)<(n:Int))=false):n<=60:=by have:=of_decide_eq_false h;omega
end Go.Proofs.Ytjpghcmlglhmbaa
