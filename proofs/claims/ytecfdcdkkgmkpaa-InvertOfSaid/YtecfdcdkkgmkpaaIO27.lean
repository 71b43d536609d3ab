/- Part 27. Conditions: as each theorem says. -/
import Derived.Test.YtecfdcdkkgmkpaaIO26
import Derived.Test.YtecfdcdkkgmkpaaProg
set_option maxRecDepth 100000
namespace Go.Proofs.Ytecfdcdkkgmkpaa
open Go.RowKit
theorem QC{n:Nat}(h:decide ((0:Int)<(n:Int))=true):(0:Int)<=(n:Int)-1/\(n:Int)-1<(n:Int):=by
 have:=of_decide_eq_true h
 omega
def OB(s:Stp):Bool:=(decide (s.1.1=1)&&decide ((0:Int)<s.1.2.1))||decide (s.1.1=4)
theorem ME{s:Stp}(h:C2 s=true):OB s=true↔s.1.1=1\/s.1.1=4:=by
 unfold OB
 simp only[Bool.or_eq_true,Bool.and_eq_true,decide_eq_true_eq]
 have:=(C9 h).2
 omega
theorem TY(s:Stp):EF Try.prog [] 48 [.many (esd s)] (.part (tP (OB s))):=by
 refine AH 16 Try.func48 rfl rfl rfl fun w D=>?_
 try refine A2 ?_
 refine AF ?_
 refine BX 1 rfl rfl rfl rfl (kn rfl) rfl rfl rfl rfl ?_
 refine BY ?_
 refine AD ?_
 try refine A2 ?_
 refine A1 (A4 rfl rfl rfl (A0 rfl (kn rfl) off_69_0) (A4 rfl rfl rfl (A5 rfl (kn rfl) rfl rfl one_3) (A4 rfl rfl rfl (A6 rfl (kn rfl) (kn rfl) AO) (A9 rfl rfl rfl rfl rfl (Walk.gd _ rfl rfl rfl (fun h=>A0 rfl (kn rfl) off_69_1) (Walk.gd _ rfl rfl rfl (fun h=>A5 rfl (A3 rfl h) rfl rfl one_3) (Walk.gd _ rfl rfl rfl (fun h=>A6 rfl (A3 rfl h) (kn rfl) D7) (A4 rfl rfl rfl (AQ rfl (kn rfl) (fun hb=>A3 rfl hb)) (A9 rfl rfl rfl rfl rfl (Walk.gd _ rfl rfl rfl (fun h=>A0 rfl (kn rfl) off_69_0) (Walk.gd _ rfl rfl rfl (fun h=>A5 rfl (A3 rfl h) rfl rfl one_3) (Walk.gd _ rfl rfl rfl (fun h=>A6 rfl (A3 rfl h) (kn rfl) AO) (A4 rfl rfl rfl (DI rfl (kn rfl) (fun hb=>A3 rfl hb)) (AC rfl rfl rfl rfl rfl .nil)))))))))))))) ?_
 try refine A2 ?_
 exact A8 rfl rfl (.tmp (kn rfl) (.nil)) (Imp.of_eq rfl) rfl
abbrev zR(l:List Stp):Rw:=⟨69,30,l.length,l.flatMap B5,false⟩
theorem VK{l:List Stp}{k:Nat}(h:decide ((k:Int)<(l.length:Int))=true):l[(k:Int).toNat]?=some ((l[k]?).getD default):=by
 have:=of_decide_eq_true h
 rw[Int.toNat_natCast,List.getElem?_eq_getElem (by omega)]
 rfl
theorem VJ{l:List Stp}{o:List Stp}{k:Nat}{x:Stp}(hn:BF (fun _=>true) PU none l=true)(hx:l[k]?=some x)(h1:x.1.1=1)(h:F3 o=1 -> ∃ y,D5 l k=some y/\y.1.1=1):F3 o≠1:=fun h2=>by
 obtain⟨y,hy,hy1⟩:=h h2
 have:=MG hn hx hy
 unfold PU at this
 rw[hy1,h1]at this
 cases this
theorem P9{o d p:List Stp}{x:Stp}{q:Prop}(h:F3 (o++d++p++[x])=1)(hx:x.1.1≠1):q:=absurd ((EW _ x).symm.trans h) hx
theorem SJ{p:List Stp}{x:Stp}(hp:∀ s∈p,s.1.1=2)(hx:x.1.1=2):∀ s∈p++[x],s.1.1=2:=fun s hs=>by
 rcases List.mem_append.1 hs with h | h
 ·exact hp s h
 ·rw[List.mem_singleton.1 h]
  exact hx
theorem UP{o d p:List Stp}{x:Stp}{q:Prop}(h:F3 (o++d++(p++[x]))=1)(hx:x.1.1≠1):q:=by
 rw[<- List.append_assoc]at h
 exact P9 h hx
theorem VI{o d p:List Stp}{x:Stp}{q:Prop}(h:F3 (o++(d++[x])++p)=1)(hx:x.1.1≠1)(hp:∀ s∈p,s.1.1=3):q:=by
 rw[<- List.append_assoc]at h
 exact N1 hx hp h
set_option maxHeartbeats 4000000 in
theorem UI(l:List Stp)(hl:l.length<=80)(hs:∀ s∈l,C2 s=true)(hn:BF (fun _=>true) PU none l=true):EF Try.prog [] 23 [.one (.row 30 l.length (l.flatMap B5))] (.part (.one (.row 30 (tdy [] [] l).length ((tdy [] [] l).flatMap B5)))):=by
 refine AH 119 Try.func23 rfl rfl rfl fun w D=>?_
 try refine A2 ?_
 refine A1 (AC rfl rfl rfl rfl rfl .nil) ?_
 try refine A2 ?_
 refine AF ?_
 refine GR 1000 rfl rfl rfl rfl sl_42 ap_42 rfl rfl ?_
 refine BY ?_
 refine AD ?_
 try refine A2 ?_
 refine A1 (AC rfl rfl rfl rfl rfl .nil) ?_
 try refine A2 ?_
 refine BB (ι:={ q:Nat×List Stp // q.1<=l.length/\q.2++tdy [] [] (l.drop q.1)=tdy [] [] l/\q.2.length<=q.1/\(F3 q.2=1 -> ∃ y,D5 l q.1=some y/\y.1.1=1) })
  (fun q=>[(0,.part (.one (.row 30 l.length (l.flatMap B5)))),(3,.own 1000),(4,.is (.int .i64 (q.1.1:Int)))])
  (fun _=>[]) (fun q=>[(1000,zR q.1.2)]) (fun q=>l.length-q.1.1) ⟨(0,[]),Nat.zero_le _,rfl,Nat.le_refl _,(fun h=>by cases h)⟩
  (fun K=>AM ⟨s_t,s_t,s_t,trivial⟩ trivial ⟨rfl,trivial⟩) ?_
 rintro⟨⟨k0,out⟩,hk,hw,hlen,hlast⟩
 dsimp only at hk hw hlen hlast ⊢
 try refine A2 ?_
 refine A1 (A9 rfl rfl rfl rfl rfl (A9 rfl rfl rfl rfl rfl (A4 rfl rfl rfl (AT rfl (kn rfl) sle_42) (A4 rfl rfl rfl (A6 rfl (kn rfl) (kn rfl) B7) .nil)))) ?_
 try refine A2 ?_
 refine AA rfl (fun h=>?_) (fun h=>?_)
 ·have hlt:=of_decide_eq_true h
  try refine A2 ?_
  refine AF ?_
  refine GR 1001 rfl rfl rfl rfl sl_42 ap_42 rfl rfl ?_
  refine GR 1002 rfl rfl rfl rfl sl_42 ap_42 rfl rfl ?_
  refine BY ?_
  refine BY ?_
  refine AD ?_
  try refine A2 ?_
  refine BB (ι:={ q:Nat×List Stp×List Stp // (q.1<=l.length/\k0<=q.1)/\out++tdy q.2.1 q.2.2 (l.drop q.1)=tdy [] [] l/\out.length+q.2.1.length+q.2.2.length<=q.1/\(∀ s∈q.2.1,s.1.1=2)/\(∀ s∈q.2.2,s.1.1=3)/\(F3 (out++q.2.1++q.2.2)=1 -> ∃ y,D5 l q.1=some y/\y.1.1=1) })
   (fun q=>[(0,.part (.one (.row 30 l.length (l.flatMap B5)))),(3,.own 1000),(4,.is (.int .i64 (q.1.1:Int))),(5,.own 1001),(6,.own 1002)])
   (fun _=>[]) (fun q=>[(1000,zR out),(1001,zR q.1.2.1),(1002,zR q.1.2.2)]) (fun q=>l.length-q.1.1) ⟨(k0,[],[]),⟨hk,Nat.le_refl _⟩,hw,hlen,(fun _ h=>by cases h),(fun _ h=>by cases h),(by rw[List.append_nil,List.append_nil];exact hlast)⟩
   (fun K=>AM ⟨s_t,s_t,s_t,s_t,s_t,trivial⟩ trivial ⟨rfl,rfl,rfl,trivial⟩) ?_
  clear hk hw hlen hlast
  rintro⟨⟨k,d,p⟩,⟨hk,hk0⟩,hw,hlen,hd2,hp3,hlast⟩
  dsimp only at hk hk0 hw hlen hd2 hp3 hlast ⊢
  try refine A2 ?_
  refine A1 (A9 rfl rfl rfl rfl rfl (A9 rfl rfl rfl rfl rfl (A4 rfl rfl rfl (AT rfl (kn rfl) sle_42) (A4 rfl rfl rfl (A6 rfl (kn rfl) (kn rfl) B7) (A9 rfl rfl rfl rfl rfl (Walk.gd _ rfl rfl rfl (fun h=>AW rfl (kn rfl)) (Walk.gd _ rfl rfl rfl (fun h=>AW rfl (kn rfl)) (Walk.gd _ rfl rfl rfl (fun h=>AL rfl (A3 rfl h) (A3 rfl h) (Int.natCast_nonneg _) (VK h) BK sle_42 esz_42 (BJ _)) (Walk.gd _ rfl rfl rfl (fun h=>C1 (esd ((l[k]?).getD default)) 30 rfl (A3 rfl h) agg_69 sz_69 rfl rfl) (Walk.gd _ rfl rfl rfl (fun h=>AE rfl (by kernel_rfl) (TY ((l[k]?).getD default)) ⟨(A3 rfl h),trivial⟩) (Walk.gd _ rfl rfl rfl (fun h=>D1 rfl (A3 rfl h)) (A4 rfl rfl rfl (AQ rfl (kn rfl) (fun hb=>A3 rfl hb)) .nil)))))))))))) ?_
  try refine A2 ?_
  refine AA rfl (fun c=>?_) (fun c=>?_)
  ·simp only[Bool.and_eq_true,decide_eq_true_eq,Bool.not_eq_true']at c
   obtain⟨c1,c2⟩:=c
   have hkl:k<l.length:=by omega
   obtain⟨x,hx⟩:∃ x,l[k]?=some x:=⟨_,List.getElem?_eq_getElem hkl⟩
   rw[hx,Option.getD_some]at c2
   have hsx:=hs x (List.mem_of_getElem? hx)
   have hns:¬ (x.1.1=1\/x.1.1=4):=fun h=>by
    rw[(ME hsx).2 h]at c2
    cases c2
   have hcx:=(C9 hsx).2
   rw[B6 hx]at hw
   try refine A2 ?_
   refine A1 (A9 rfl rfl rfl rfl rfl (A9 rfl rfl rfl rfl rfl (A4 rfl rfl rfl (AL rfl (kn rfl) (kn rfl) (by omega) hx BK sle_42 esz_42 (BJ x)) (A4 rfl rfl rfl (AB rfl (kn rfl) off_69_0) (A4 rfl rfl rfl (AI rfl (kn rfl) one_3) (A4 rfl rfl rfl (A6 rfl (kn rfl) (kn rfl) AO) .nil)))))) ?_
   try refine A2 ?_
   refine AA rfl (fun c3=>?_) (fun c3=>?_)
   ·have k2:=of_decide_eq_true c3
    try refine A2 ?_
    refine AF ?_
    refine BA ?_
    refine BA ?_
    refine BA ?_
    refine AG (AL rfl (kn rfl) (kn rfl) (by omega) hx BK sle_42 esz_42 (BJ x)) ?_
    refine AG (AJ rfl (kn rfl) agg_69 sz_69) ?_
    refine AG (B2 (ds:=[_,_,_,_,_,_,_,_,_,_,_,_,_,_,_,_,_,_,_,_,_,_,_,_,_,_,_,_,_,_]) [(0,_)] rfl ⟨rfl,(kn rfl),trivial⟩ rfl sl_42 sz_69 zr_69 (fun w D=>.cons (.cell _) (.cons (.cell _) (.cons (.cell _) (.cons (.cell _) (.cons (.cell _) (.cons (.cell _) (.cons (.cell _) (.cons (.cell _) (.cons (.cell _) (.cons (.cell _) (.cons (.cell _) (.cons (.cell _) (.cons (.cell _) (.cons (.cell _) (.cons (.cell _) (.cons (.cell _) (.cons (.cell _) (.cons (.cell _) (.cons (.cell _) (.cons (.cell _) (.cons (.cell _) (.cons (.cell _) (.cons (.cell _) (.cons (.cell _) (.cons (.cell _) (.cons (.cell _) (.cons (.cell _) (.cons (.cell _) (.cons (.cell _) (.cons (.cell _) (.nil _ _))))))))))))))))))))))))))))))) rfl rfl rfl rfl rfl) ?_
    refine BP rfl rfl rfl rfl (kn rfl) rfl (kn rfl) sl_42 ap_42 rfl rfl (by first | omega | (dsimp only;omega)) (by first | omega | (dsimp only;omega)) ?_
    refine BY ?_
    refine AD ?_
    try refine A2 ?_
    refine CP (I8 d x) (G0 d x) ?_
    refine A1 (A9 rfl rfl rfl rfl rfl (A9 rfl rfl rfl rfl rfl (A4 rfl rfl rfl (AL rfl (kn rfl) (kn rfl) (by omega) hx BK sle_42 esz_42 (BJ x)) (A4 rfl rfl rfl (AB rfl (kn rfl) off_69_0) (A4 rfl rfl rfl (AI rfl (kn rfl) one_3) (A4 rfl rfl rfl (A6 rfl (kn rfl) (kn rfl) AO) .nil)))))) ?_
    try refine A2 ?_
    refine AA rfl (fun c4=>absurd (of_decide_eq_true c4) (by omega)) (fun _=>?_)
    try refine A2 ?_
    refine A1 (A9 rfl rfl rfl rfl rfl (A4 rfl rfl rfl (A6 rfl (kn rfl) (kn rfl) (AS (by first | omega | (dsimp only;omega)))) (AC rfl rfl rfl rfl rfl .nil))) ?_
    try refine A2 ?_
    refine AR ⟨(k+1,d++[x],p),by dsimp only;omega,by dsimp only;rw[<- hw];rw[KW k2],by simp only[List.length_append,List.length_cons,List.length_nil];omega,(SJ hd2 k2),hp3,(fun h2=>VI h2 (by omega) hp3)⟩ (by dsimp only;omega) (fun K=>AM ⟨s_t,s_t,s_t,s_t,s_t,trivial⟩ trivial ⟨rfl,rfl,rfl,trivial⟩)
   have n2:=of_decide_eq_false c3
   have k3:x.1.1=3:=by omega
   try refine A2 ?_
   refine A1 (A9 rfl rfl rfl rfl rfl (A9 rfl rfl rfl rfl rfl (A4 rfl rfl rfl (AL rfl (kn rfl) (kn rfl) (by omega) hx BK sle_42 esz_42 (BJ x)) (A4 rfl rfl rfl (AB rfl (kn rfl) off_69_0) (A4 rfl rfl rfl (AI rfl (kn rfl) one_3) (A4 rfl rfl rfl (A6 rfl (kn rfl) (kn rfl) AO) .nil)))))) ?_
   try refine A2 ?_
   refine AA rfl (fun _=>?_) (fun c4=>absurd k3 (of_decide_eq_false c4))
   try refine A2 ?_
   refine AF ?_
   refine BA ?_
   refine BA ?_
   refine BA ?_
   refine AG (AL rfl (kn rfl) (kn rfl) (by omega) hx BK sle_42 esz_42 (BJ x)) ?_
   refine AG (AJ rfl (kn rfl) agg_69 sz_69) ?_
   refine AG (B2 (ds:=[_,_,_,_,_,_,_,_,_,_,_,_,_,_,_,_,_,_,_,_,_,_,_,_,_,_,_,_,_,_]) [(0,_)] rfl ⟨rfl,(kn rfl),trivial⟩ rfl sl_42 sz_69 zr_69 (fun w D=>.cons (.cell _) (.cons (.cell _) (.cons (.cell _) (.cons (.cell _) (.cons (.cell _) (.cons (.cell _) (.cons (.cell _) (.cons (.cell _) (.cons (.cell _) (.cons (.cell _) (.cons (.cell _) (.cons (.cell _) (.cons (.cell _) (.cons (.cell _) (.cons (.cell _) (.cons (.cell _) (.cons (.cell _) (.cons (.cell _) (.cons (.cell _) (.cons (.cell _) (.cons (.cell _) (.cons (.cell _) (.cons (.cell _) (.cons (.cell _) (.cons (.cell _) (.cons (.cell _) (.cons (.cell _) (.cons (.cell _) (.cons (.cell _) (.cons (.cell _) (.nil _ _))))))))))))))))))))))))))))))) rfl rfl rfl rfl rfl) ?_
   refine BP rfl rfl rfl rfl (kn rfl) rfl (kn rfl) sl_42 ap_42 rfl rfl (by first | omega | (dsimp only;omega)) (by first | omega | (dsimp only;omega)) ?_
   refine BY ?_
   refine AD ?_
   try refine A2 ?_
   refine CP (I8 p x) (G0 p x) ?_
   refine A1 (A9 rfl rfl rfl rfl rfl (A4 rfl rfl rfl (A6 rfl (kn rfl) (kn rfl) (AS (by first | omega | (dsimp only;omega)))) (AC rfl rfl rfl rfl rfl .nil))) ?_
   try refine A2 ?_
   refine AR ⟨(k+1,d,p++[x]),by dsimp only;omega,by dsimp only;rw[<- hw];rw[O5 k3],by simp only[List.length_append,List.length_cons,List.length_nil];omega,hd2,(P4 hp3 k3),(fun h2=>UP h2 (by omega))⟩ (by dsimp only;omega) (fun K=>AM ⟨s_t,s_t,s_t,s_t,s_t,trivial⟩ trivial ⟨rfl,rfl,rfl,trivial⟩)
  try refine A2 ?_
  refine BU 5 1001 rfl rfl rfl ?_
  refine BU 6 1002 rfl rfl rfl ?_
  refine AF ?_
  refine BA ?_
  refine BA ?_
  refine BP rfl rfl rfl rfl (kn rfl) rfl (kn rfl) sl_42 ap_42 rfl (FJ d) (by first | omega | (dsimp only;omega)) (by first | omega | (dsimp only;omega)) ?_
  refine CP (LQ out d) (IJ out d) ?_
  refine BA ?_
  refine BP rfl rfl rfl rfl (kn rfl) rfl (kn rfl) sl_42 ap_42 rfl (FJ p) (by simp only[List.length_append];omega) (by simp only[List.length_append];omega) ?_
  refine CP (LQ (out++d) p) (IJ (out++d) p) ?_
  refine BY ?_
  refine AD ?_
  try refine A2 ?_
  refine A1 (A9 rfl rfl rfl rfl rfl (A9 rfl rfl rfl rfl rfl (A4 rfl rfl rfl (AT rfl (kn rfl) sle_42) (A4 rfl rfl rfl (A6 rfl (kn rfl) (kn rfl) AO) .nil)))) ?_
  try refine A2 ?_
  refine AA rfl (fun c5=>?_) (fun c5=>?_)
  ·have hkl:=of_decide_eq_true c5
   rw[List.drop_eq_nil_of_le (by omega),tdy,<- List.append_assoc]at hw
   rw[<- hw]
   try refine A2 ?_
   refine A1 (A9 rfl rfl rfl rfl rfl (AC rfl rfl rfl rfl rfl .nil)) ?_
   try refine A2 ?_
   refine BU 2 1000 rfl rfl rfl ?_
   exact A8 rfl rfl (.tmp (kn rfl) (.nil)) (Imp.of_eq rfl) rfl
  have hkl:k<l.length:=by have:=of_decide_eq_false c5;omega
  obtain⟨x,hx⟩:∃ x,l[k]?=some x:=⟨_,List.getElem?_eq_getElem hkl⟩
  have hsx:=hs x (List.mem_of_getElem? hx)
  have hst:x.1.1=1\/x.1.1=4:=by
   rw[hx,decide_eq_true (show(k:Int)<(l.length:Int) by omega)]at c
   exact(ME hsx).1 (by simpa using c)
  have hcx:=(C9 hsx).2
  rw[B6 hx]at hw
  try refine A2 ?_
  refine AF ?_
  refine BA ?_
  refine BA ?_
  refine AG (AL rfl (kn rfl) (kn rfl) (by omega) hx BK sle_42 esz_42 (BJ x)) ?_
  refine AG (AJ rfl (kn rfl) agg_69 sz_69) ?_
  refine AV 7 [.is (.int .i64 0),.is (.int .i64 0),.is (.int .i64 0),.is (.int .u64 0),.is (.string ⟨#[]⟩),.is (.slice none 0 0),.is (.string ⟨#[]⟩),.is (.slice none 0 0),.is (.slice none 0 0),.is (.int .i64 0),.is (.int .i64 0),.is (.int .u64 0),.is (.string ⟨#[]⟩),.is (.slice none 0 0),.is (.string ⟨#[]⟩),.is (.slice none 0 0),.is (.slice none 0 0),.is (.int .i64 0),.is (.int .u64 0),.is (.string ⟨#[]⟩),.is (.slice none 0 0),.is (.string ⟨#[]⟩),.is (.slice none 0 0),.is (.slice none 0 0),.is (.slice none 0 0),.is (.bool false),.is (.string ⟨#[]⟩),.is (.string ⟨#[]⟩),.is (.slice none 0 0),.is (.slice none 0 0)] rfl rfl rfl rfl zr_69 (fun w D M V=>⟨rfl,fun j x v h1 h2=>AU _ h1 h2 rfl⟩) rfl rfl rfl rfl ?_
  refine AP rfl rfl rfl (kn rfl) rfl (kn rfl) rfl rfl sz_69 ?_
  refine AD ?_
  try refine A2 ?_
  refine A1 (A9 rfl rfl rfl rfl rfl (A4 rfl rfl rfl (A6 rfl (kn rfl) (kn rfl) (AS (by first | omega | (dsimp only;omega)))) (AC rfl rfl rfl rfl rfl .nil))) ?_
  try refine A2 ?_
  refine A1 (A4 rfl rfl rfl (A0 rfl (kn rfl) off_69_0) (A4 rfl rfl rfl (A5 rfl (kn rfl) rfl rfl one_3) (A4 rfl rfl rfl (A6 rfl (kn rfl) (kn rfl) AO) (A9 rfl rfl rfl rfl rfl (Walk.gd _ rfl rfl rfl (fun h=>A0 rfl (kn rfl) off_69_3) (Walk.gd _ rfl rfl rfl (fun h=>A0 rfl (A3 rfl h) off_45_0) (Walk.gd _ rfl rfl rfl (fun h=>A5 rfl (A3 rfl h) rfl rfl one_3) (Walk.gd _ rfl rfl rfl (fun h=>A6 rfl (A3 rfl h) (kn rfl) CE) (A4 rfl rfl rfl (AQ rfl (kn rfl) (fun hb=>A3 rfl hb)) .nil))))))))) ?_
  try refine A2 ?_
  refine AA rfl (fun c6=>?_) (fun c6=>?_)
  ·simp only[Bool.and_eq_true,decide_eq_true_eq]at c6
   have k4:=c6.1
   try refine A2 ?_
   refine AF ?_
   refine BA ?_
   refine AG (A7 (ds:=[_,_,_,_,_,_,_,_,_,_,_,_,_,_,_,_,_,_,_,_,_,_,_,_,_,_,_,_,_,_]) 30 rfl (kn rfl) rfl rfl agg_69 sz_69 rfl) ?_
   refine AG (B2 (ds:=[_,_,_,_,_,_,_,_,_,_,_,_,_,_,_,_,_,_,_,_,_,_,_,_,_,_,_,_,_,_]) [(0,_)] rfl ⟨rfl,(kn rfl),trivial⟩ rfl sl_42 sz_69 zr_69 (fun w D=>.cons (.cell _) (.cons (.cell _) (.cons (.cell _) (.cons (.cell _) (.cons (.cell _) (.cons (.cell _) (.cons (.cell _) (.cons (.cell _) (.cons (.cell _) (.cons (.cell _) (.cons (.cell _) (.cons (.cell _) (.cons (.cell _) (.cons (.cell _) (.cons (.cell _) (.cons (.cell _) (.cons (.cell _) (.cons (.cell _) (.cons (.cell _) (.cons (.cell _) (.cons (.cell _) (.cons (.cell _) (.cons (.cell _) (.cons (.cell _) (.cons (.cell _) (.cons (.cell _) (.cons (.cell _) (.cons (.cell _) (.cons (.cell _) (.cons (.cell _) (.nil _ _))))))))))))))))))))))))))))))) rfl rfl rfl rfl rfl) ?_
   refine BP rfl rfl rfl rfl (kn rfl) rfl (kn rfl) sl_42 ap_42 rfl rfl (by simp only[List.length_append];omega) (by simp only[List.length_append];omega) ?_
   refine CP (I8 (out++d++p) x) (G0 (out++d++p) x) ?_
   refine BY ?_
   refine AD ?_
   try refine A2 ?_
   refine AR ⟨(k+1,out++d++p++[x]),by dsimp only;omega,by dsimp only;rw[<- hw,J1 (by omega) (by omega)];simp,by simp only[List.length_append,List.length_cons,List.length_nil];omega,(fun h2=>P9 h2 (by omega))⟩ (by dsimp only;omega) (fun K=>AM ⟨s_t,s_t,s_t,trivial⟩ trivial ⟨rfl,trivial⟩)
  have k1:x.1.1=1:=by
   refine Classical.byContradiction fun h1=>?_
   have k4:x.1.1=4:=by omega
   have h0:x.2.kind≠0:=by
    rcases hcx with⟨a,_⟩ | ⟨a,_⟩ | ⟨_,_,_,b⟩
    ·omega
    ·omega
    ·exact b
   rw[decide_eq_true k4,Bool.true_and,Bool.not_eq_false',decide_eq_true_eq]at c6
   exact h0 c6
  have hlk:=VJ hn hx k1 hlast
  have hl3:(out++d++p).length<=80:=by simp only[List.length_append];omega
  try refine A2 ?_
  refine A1 (AC rfl rfl rfl rfl rfl .nil) ?_
  try refine A2 ?_
  refine A1 (A4 rfl rfl rfl (A0 rfl (kn rfl) off_69_0) (A4 rfl rfl rfl (A5 rfl (kn rfl) rfl rfl one_3) (A4 rfl rfl rfl (A6 rfl (kn rfl) (kn rfl) AO) .nil))) ?_
  try refine A2 ?_
  refine AA rfl (fun _=>?_) (fun c7=>absurd k1 (of_decide_eq_false c7))
  try refine A2 ?_
  refine A1 (A4 rfl rfl rfl (A0 rfl (kn rfl) off_69_1) (A4 rfl rfl rfl (A5 rfl (kn rfl) rfl rfl one_3) (AC rfl rfl rfl rfl rfl .nil))) ?_
  try refine A2 ?_
  try refine A2 ?_
  refine A1 (A9 rfl rfl rfl rfl rfl (A4 rfl rfl rfl (EM rfl (kn rfl) rfl sle_42) (A4 rfl rfl rfl (A6 rfl (kn rfl) (kn rfl) D7) (A9 rfl rfl rfl rfl rfl (Walk.gd _ rfl rfl rfl (fun h=>AW rfl (kn rfl)) (Walk.gd _ rfl rfl rfl (fun h=>AW rfl (kn rfl)) (Walk.gd _ rfl rfl rfl (fun h=>EM rfl (A3 rfl h) rfl sle_42) (Walk.gd _ rfl rfl rfl (fun h=>A6 rfl (A3 rfl h) (kn rfl) (E2 (by first | omega | (dsimp only;omega)))) (Walk.gd _ rfl rfl rfl (fun h=>HK rfl (A3 rfl h) rfl (A3 rfl h) (QC h) sle_42 esz_42) (Walk.gd _ rfl rfl rfl (fun h=>AZ rfl (A3 rfl h) off_69_0) (Walk.gd _ rfl rfl rfl (fun h=>CC rfl (A3 rfl h) rfl (P7 (QC h).1) one_3) (Walk.gd _ rfl rfl rfl (fun h=>A6 rfl (A3 rfl h) (kn rfl) AO) (A4 rfl rfl rfl (AQ rfl (kn rfl) (fun hb=>A3 rfl hb)) .nil))))))))))))) ?_
  try refine A2 ?_
  refine AA rfl (fun c8=>?_) (fun c8=>?_)
  ·exfalso
   simp only[Bool.and_eq_true,decide_eq_true_eq]at c8
   exact hlk c8.2
  try refine A2 ?_
  refine AF ?_
  refine BA ?_
  refine BA ?_
  refine AG (BV (ds:=[_,_,_,_,_,.row 8 0 [],_,.row 7 0 [],.row 14 0 [],_,_,_,_,.row 8 0 [],_,.row 7 0 [],.row 14 0 [],_,_,_,.row 8 0 [],_,.row 7 0 [],.row 14 0 [],.row 22 0 [],_,_,_,.row 30 0 [],.row 28 0 []]) [(0,_),(1,_)] rfl ⟨rfl,(kn rfl),⟨rfl,(kn rfl),trivial⟩⟩ rfl pl_69 zr_69 (fun w D=>.cons (.cell _) (.cons (.cell _) (.cons (.cell _) (.cons (.cell _) (.cons (.cell _) (.cons (.none _ _ _) (.cons (.cell _) (.cons (.none _ _ _) (.cons (.none _ _ _) (.cons (.cell _) (.cons (.cell _) (.cons (.cell _) (.cons (.cell _) (.cons (.none _ _ _) (.cons (.cell _) (.cons (.none _ _ _) (.cons (.none _ _ _) (.cons (.cell _) (.cons (.cell _) (.cons (.cell _) (.cons (.none _ _ _) (.cons (.cell _) (.cons (.none _ _ _) (.cons (.none _ _ _) (.cons (.none _ _ _) (.cons (.cell _) (.cons (.cell _) (.cons (.cell _) (.cons (.none _ _ _) (.cons (.none _ _ _) (.nil _ _))))))))))))))))))))))))))))))) rfl) ?_
  refine AG (B2 (ds:=[_,_,_,_,_,_,_,_,_,_,_,_,_,_,_,_,_,_,_,_,_,_,_,_,_,_,_,_,_,_]) [(0,_)] rfl ⟨rfl,(kn rfl),trivial⟩ rfl sl_42 sz_69 zr_69 (fun w D=>.cons (.cell _) (.cons (.cell _) (.cons (.cell _) (.cons (.cell _) (.cons (.cell _) (.cons (.cell _) (.cons (.cell _) (.cons (.cell _) (.cons (.cell _) (.cons (.cell _) (.cons (.cell _) (.cons (.cell _) (.cons (.cell _) (.cons (.cell _) (.cons (.cell _) (.cons (.cell _) (.cons (.cell _) (.cons (.cell _) (.cons (.cell _) (.cons (.cell _) (.cons (.cell _) (.cons (.cell _) (.cons (.cell _) (.cons (.cell _) (.cons (.cell _) (.cons (.cell _) (.cons (.cell _) (.cons (.cell _) (.cons (.cell _) (.cons (.cell _) (.nil _ _))))))))))))))))))))))))))))))) rfl rfl rfl rfl rfl) ?_
  refine BP rfl rfl rfl rfl (kn rfl) rfl (kn rfl) sl_42 ap_42 rfl rfl (by simp only[List.length_append];omega) (by simp only[List.length_append];omega) ?_
  refine CP (ds':=(out++d++p++[x]).flatMap B5) (I8 (out++d++p) x) ((G0 (out++d++p) (sK x.1.2.1)).trans (by rw[RS hsx k1])) ?_
  refine BY ?_
  refine AD ?_
  try refine A2 ?_
  refine AR ⟨(k+1,out++d++p++[x]),by dsimp only;omega,by dsimp only;rw[<- hw,J1 (by omega) (by omega)];simp,by simp only[List.length_append,List.length_cons,List.length_nil];omega,(fun _=>⟨x,HM hx,k1⟩)⟩ (by dsimp only;omega) (fun K=>AM ⟨s_t,s_t,s_t,trivial⟩ trivial ⟨rfl,trivial⟩)
 have hkl:l.length<=k0:=by have:=of_decide_eq_false h;omega
 rw[List.drop_eq_nil_of_le hkl,tdy,List.append_nil,List.append_nil]at hw
 rw[<- hw]
 try refine A2 ?_
 refine A1 (A9 rfl rfl rfl rfl rfl (AC rfl rfl rfl rfl rfl .nil)) ?_
 try refine A2 ?_
 refine BU 2 1000 rfl rfl rfl ?_
 exact A8 rfl rfl (.tmp (kn rfl) (.nil)) (Imp.of_eq rfl) rfl
end Go.Proofs.Ytecfdcdkkgmkpaa
