/- Part 21. Conditions: as each theorem says. -/
import Derived.Test.YtojdpgeeajaojaaGreatET20
import Derived.Test.YtojdpgeeajaojaaGreatProg
import Derived.Lib.Bytealg
import Derived.Laws.Externs
set_option maxRecDepth 100000
namespace Go.Proofs.YtojdpgeeajaojaaGreat
open Go.RowKit
theorem HO(a:Int):EF Tryz.prog [] 96 [iP a] (.part (tP false)):=by
 refine AG 6 Tryz.func96 rfl rfl rfl fun w D=>?_
 try refine A3 ?_
 refine A2 (AC rfl rfl rfl rfl rfl .nil) ?_
 try refine A3 ?_
 refine A2 (A9 rfl rfl rfl rfl rfl (A9 rfl rfl rfl rfl rfl (A4 rfl rfl rfl (A6 rfl (kn rfl) (kn rfl) BI) (AC rfl rfl rfl rfl rfl .nil)))) ?_
 try refine A3 ?_
 exact A8 rfl rfl (.tmp (kn rfl) (.nil)) (Imp.of_eq (by simp;rfl)) rfl
theorem JL(a b:Int):EF Tryz.prog [] 77 [iP a,iP b] (.part (iP (DT a b))):=by
 refine AG 20 Tryz.func77 rfl rfl rfl fun w D=>?_
 try refine A3 ?_
 refine A2 (AC rfl rfl rfl rfl rfl .nil) ?_
 try refine A3 ?_
 refine A2 (A9 rfl rfl rfl rfl rfl (A4 rfl rfl rfl (AD rfl (by kernel_rfl) (HO a) ⟨(kn rfl),trivial⟩) (AC rfl rfl rfl rfl rfl .nil))) ?_
 try refine A3 ?_
 refine A2 (A9 rfl rfl rfl rfl rfl (A4 rfl rfl rfl (AD rfl (by kernel_rfl) (HO b) ⟨(kn rfl),trivial⟩) (AC rfl rfl rfl rfl rfl .nil))) ?_
 try refine A3 ?_
 refine A2 (A9 rfl rfl rfl rfl rfl .nil) ?_
 try refine A3 ?_
 refine R6 ?_
 try refine A3 ?_
 refine A2 (A9 rfl rfl rfl rfl rfl .nil) ?_
 try refine A3 ?_
 refine R6 ?_
 try refine A3 ?_
 refine A2 (A9 rfl rfl rfl rfl rfl (A9 rfl rfl rfl rfl rfl (A4 rfl rfl rfl (A6 rfl (kn rfl) (kn rfl) AY) .nil))) ?_
 try refine A3 ?_
 refine AB rfl (fun h=>?_) (fun h=>?_)
 ·have e:DT a b = -1:=MC (by have:=of_decide_eq_true h;omega)
  try refine A3 ?_
  refine A2 (AC rfl rfl rfl rfl rfl .nil) ?_
  try refine A3 ?_
  exact A8 rfl rfl (.tmp (kn rfl) (.nil)) (Imp.of_eq (by rw[e];rfl)) rfl
 try refine A3 ?_
 refine A2 (A9 rfl rfl rfl rfl rfl (A9 rfl rfl rfl rfl rfl (A4 rfl rfl rfl (A6 rfl (kn rfl) (kn rfl) BN) .nil))) ?_
 try refine A3 ?_
 refine AB rfl (fun h2=>?_) (fun h2=>?_)
 ·have e:DT a b=1:=M3 (by have:=of_decide_eq_true h2;omega)
  try refine A3 ?_
  refine A2 (AC rfl rfl rfl rfl rfl .nil) ?_
  try refine A3 ?_
  exact A8 rfl rfl (.tmp (kn rfl) (.nil)) (Imp.of_eq (by rw[e];rfl)) rfl
 have e:DT a b=0:=J9 (by have:=of_decide_eq_false h;have:=of_decide_eq_false h2;omega)
 try refine A3 ?_
 refine A2 (AC rfl rfl rfl rfl rfl .nil) ?_
 try refine A3 ?_
 exact A8 rfl rfl (.tmp (kn rfl) (.nil)) (Imp.of_eq (by rw[e];rfl)) rfl
theorem HH(a:Nat):EF Tryz.prog [] 97 [uP a] (.part (tP false)):=by
 refine AG 6 Tryz.func97 rfl rfl rfl fun w D=>?_
 try refine A3 ?_
 refine A2 (AC rfl rfl rfl rfl rfl .nil) ?_
 try refine A3 ?_
 refine A2 (A9 rfl rfl rfl rfl rfl (A9 rfl rfl rfl rfl rfl (A4 rfl rfl rfl (A6 rfl (kn rfl) (kn rfl) BI) (AC rfl rfl rfl rfl rfl .nil)))) ?_
 try refine A3 ?_
 exact A8 rfl rfl (.tmp (kn rfl) (.nil)) (Imp.of_eq (by simp;rfl)) rfl
theorem P7(a b:Nat):EF Tryz.prog [] 78 [uP a,uP b] (.part (iP (ncmp a b))):=by
 refine AG 20 Tryz.func78 rfl rfl rfl fun w D=>?_
 try refine A3 ?_
 refine A2 (AC rfl rfl rfl rfl rfl .nil) ?_
 try refine A3 ?_
 refine A2 (A9 rfl rfl rfl rfl rfl (A4 rfl rfl rfl (AD rfl (by kernel_rfl) (HH a) ⟨(kn rfl),trivial⟩) (AC rfl rfl rfl rfl rfl .nil))) ?_
 try refine A3 ?_
 refine A2 (A9 rfl rfl rfl rfl rfl (A4 rfl rfl rfl (AD rfl (by kernel_rfl) (HH b) ⟨(kn rfl),trivial⟩) (AC rfl rfl rfl rfl rfl .nil))) ?_
 try refine A3 ?_
 refine A2 (A9 rfl rfl rfl rfl rfl .nil) ?_
 try refine A3 ?_
 refine R6 ?_
 try refine A3 ?_
 refine A2 (A9 rfl rfl rfl rfl rfl .nil) ?_
 try refine A3 ?_
 refine R6 ?_
 try refine A3 ?_
 refine A2 (A9 rfl rfl rfl rfl rfl (A9 rfl rfl rfl rfl rfl (A4 rfl rfl rfl (A6 rfl (kn rfl) (kn rfl) AY) .nil))) ?_
 try refine A3 ?_
 refine AB rfl (fun h=>?_) (fun h=>?_)
 ·have e:ncmp a b = -1:=HF (by have:=of_decide_eq_true h;omega)
  try refine A3 ?_
  refine A2 (AC rfl rfl rfl rfl rfl .nil) ?_
  try refine A3 ?_
  exact A8 rfl rfl (.tmp (kn rfl) (.nil)) (Imp.of_eq (by rw[e];rfl)) rfl
 try refine A3 ?_
 refine A2 (A9 rfl rfl rfl rfl rfl (A9 rfl rfl rfl rfl rfl (A4 rfl rfl rfl (A6 rfl (kn rfl) (kn rfl) BN) .nil))) ?_
 try refine A3 ?_
 refine AB rfl (fun h2=>?_) (fun h2=>?_)
 ·have e:ncmp a b=1:=HJ (by have:=of_decide_eq_true h2;omega)
  try refine A3 ?_
  refine A2 (AC rfl rfl rfl rfl rfl .nil) ?_
  try refine A3 ?_
  exact A8 rfl rfl (.tmp (kn rfl) (.nil)) (Imp.of_eq (by rw[e];rfl)) rfl
 have e:ncmp a b=0:=HG (by have:=of_decide_eq_false h;have:=of_decide_eq_false h2;omega)
 try refine A3 ?_
 refine A2 (AC rfl rfl rfl rfl rfl .nil) ?_
 try refine A3 ?_
 exact A8 rfl rfl (.tmp (kn rfl) (.nil)) (Imp.of_eq (by rw[e];rfl)) rfl
theorem JE:∀ a b:List UInt8,Lib.compareBytes a b=tcmp a b
 | [],[]=>rfl
 | [],_::_=>rfl
 | _::_,[]=>rfl
 | x::a,y::b=>by
  rw[Lib.compareBytes,tcmp,JE a b]
  simp only[UInt8.lt_iff_toNat_lt]
theorem KY(a b:List UInt8)(w:World):(callFunc 105 #[.string (str a),.string (str b)]).run Tryz.prog w=.ok (.value (.int .i64 (tcmp a b))) w:=by
 rw[run_callFunc_extern (e:=Extern.BytealgCompare.compare) Tryz.func105 (by kernel_rfl) (by kernel_rfl) (by rfl) (by rfl),Lib.run_compareString]
 show Result.ok _ w=_
 rw[show Lib.compareBytes (str a).data.toList (str b).data.toList=tcmp a b from JE a b]
theorem R3(a b:List UInt8):EF Tryz.prog [] 98 [sP a,sP b] (.part (iP (tcmp a b))):=by
 refine AG 8 Tryz.func98 rfl rfl rfl fun w D=>?_
 try refine A3 ?_
 refine A2 (AC rfl rfl rfl rfl rfl .nil) ?_
 try refine A3 ?_
 refine A2 (A9 rfl rfl rfl rfl rfl (A9 rfl rfl rfl rfl rfl (A4 rfl rfl rfl (UC rfl (KY a b) (kn rfl) (kn rfl)) (AC rfl rfl rfl rfl rfl .nil)))) ?_
 try refine A3 ?_
 exact A8 rfl rfl (.tmp (kn rfl) (.nil)) (Imp.of_eq rfl) rfl
theorem LD(a b:List UInt8):EF Tryz.prog [] 79 [sP a,sP b] (.part (iP (tcmp a b))):=by
 refine AG 8 Tryz.func79 rfl rfl rfl fun w D=>?_
 try refine A3 ?_
 refine A2 (AC rfl rfl rfl rfl rfl .nil) ?_
 try refine A3 ?_
 refine A2 (A9 rfl rfl rfl rfl rfl (A9 rfl rfl rfl rfl rfl (A4 rfl rfl rfl (AD rfl (by kernel_rfl) (R3 a b) ⟨(kn rfl),⟨(kn rfl),trivial⟩⟩) (AC rfl rfl rfl rfl rfl .nil)))) ?_
 try refine A3 ?_
 exact A8 rfl rfl (.tmp (kn rfl) (.nil)) (Imp.of_eq rfl) rfl
theorem V0(x y:Int):EF Tryz.prog [] 80 [.one (.row 1 2 [.cell (.int .i64 x),.cell (.int .i64 y)])] (.part (iP (lex x y))):=by
 refine AG 18 Tryz.func80 rfl rfl rfl fun w D=>?_
 try refine A3 ?_
 refine A2 (AC rfl rfl rfl rfl rfl .nil) ?_
 try refine A3 ?_
 refine A2 (AC rfl rfl rfl rfl rfl .nil) ?_
 try refine A3 ?_
 refine A2 (A9 rfl rfl rfl rfl rfl (A4 rfl rfl rfl (AR rfl (kn rfl) sle_132) (A9 rfl rfl rfl rfl rfl .nil))) ?_
 try refine A3 ?_
 refine AX (ι:={ k:Nat // k<=2/\(1<=k->x=0)/\(2<=k->y=0) })
  (fun k=>[(3,.is (.int .i64 0)),(6,.part (.one (.row 1 [x,y].length ([x,y].flatMap fun z=>[.cell (.int .i64 z)])))),(7,.is (.int .i64 2)),(8,.is (.int .i64 (k.1:Int)))])
  (fun _=>[]) (fun _=>[]) (fun k=>2-k.1) ⟨0,by omega,by omega,by omega⟩
  (fun K=>AL ⟨s_t,s_t,s_t,s_t,trivial⟩ trivial trivial) ?_
 rintro⟨k,hk,h1,h2⟩
 dsimp only at hk h1 h2 ⊢
 try refine A3 ?_
 refine A2 (A4 rfl rfl rfl (A6 rfl (kn rfl) (kn rfl) AY) .nil) ?_
 try refine A3 ?_
 refine AB rfl (fun h=>?_) (fun h=>?_)
 ·have hlt:k<2:=by have:=of_decide_eq_true h;omega
  obtain⟨z,hz⟩:∃ z,[x,y][k]?=some z:=⟨_,List.getElem?_eq_getElem hlt⟩
  try refine A3 ?_
  refine A2 (A4 rfl rfl rfl (AJ rfl (kn rfl) (kn rfl) (by omega) hz (fun _=>rfl) sle_132 esz_132 rfl) (A4 rfl rfl rfl (AF rfl (kn rfl) one_3) (AC rfl rfl rfl rfl rfl .nil))) ?_
  try refine A3 ?_
  refine A2 (A9 rfl rfl rfl rfl rfl (A9 rfl rfl rfl rfl rfl (A4 rfl rfl rfl (A6 rfl (kn rfl) (kn rfl) BI) .nil))) ?_
  try refine A3 ?_
  refine AB rfl (fun h3=>?_) (fun h3=>?_)
  ·have hne:z≠0:=by simpa using h3
   have e:lex x y=z:=by
    rcases(show k=0\/k=1 by omega)with rfl | rfl
    ·obtain rfl:x=z:=by simpa using hz
     exact CL hne
    ·obtain rfl:y=z:=by simpa using hz
     exact D8 (h1 (by omega))
   try refine A3 ?_
   refine A2 (A9 rfl rfl rfl rfl rfl (AC rfl rfl rfl rfl rfl .nil)) ?_
   try refine A3 ?_
   exact A8 rfl rfl (.tmp (kn rfl) (.nil)) (Imp.of_eq (by rw[e];rfl)) rfl
  have he:z=0:=by simpa using h3
  try refine A3 ?_
  refine A2 (A4 rfl rfl rfl (A6 rfl (kn rfl) (kn rfl) (AK (by first | omega | (dsimp only;omega)))) (A9 rfl rfl rfl rfl rfl .nil)) ?_
  try refine A3 ?_
  refine AS ⟨k+1,by omega,fun _=>?_,fun _=>?_⟩ (by dsimp only;omega) (fun K=>AL ⟨s_t,s_t,s_t,s_t,trivial⟩ trivial trivial)
  ·rcases(show k=0\/k=1 by omega)with rfl | rfl
   ·obtain rfl:x=z:=by simpa using hz
    exact he
   ·exact h1 (by omega)
  ·obtain rfl:k=1:=by omega
   obtain rfl:y=z:=by simpa using hz
   exact he
 obtain rfl:k=2:=by have:=of_decide_eq_false h;omega
 have e:lex x y=0:=by rw[D8 (h1 (by omega)),h2 (by omega)]
 try refine A3 ?_
 refine A2 (A9 rfl rfl rfl rfl rfl (AC rfl rfl rfl rfl rfl .nil)) ?_
 try refine A3 ?_
 exact A8 rfl rfl (.tmp (kn rfl) (.nil)) (Imp.of_eq (by rw[e];rfl)) rfl
abbrev fP(f:FuncId):Part:=.one (.cell (.func (.func f) #[] #[]))
def CC{α:Type}(c:α->α->Int):List α->List α->Int
 | [],[]=>0
 | [],_::_ => -1
 | _::_,[]=>1
 | x::a,y::b=>lex (c x y) (CC c a b)
theorem EX{α:Type}{c:α->α->Int}:∀ (a b:List α),(a=[]\/b=[])->CC c a b=ncmp a.length b.length
 | [],[],_=>rfl
 | [],_::_,_=>by simp[CC,ncmp]
 | _::_,[],_=>by simp[CC,ncmp]
 | _::_,_::_,h=>by simp at h
theorem LB(x y z:Int):lex x (lex y z)=lex (lex x y) z:=by
 unfold lex
 by_cases h:x=0
 ·simp[h]
 ·simp[h]
def MM(f g:Int×Vl):Int:=lex (DT f.1 g.1) (vcmp f.2 g.2)
def N9(p q:Vl×Vl):Int:=lex (vcmp p.1 q.1) (vcmp p.2 q.2)
theorem IL:∀ a b:List (Int×Vl),CC MM a b=fcmp a b
 | [],[]=>by simp[CC,fcmp]
 | [],_::_=>by simp[CC,fcmp]
 | _::_,[]=>by simp[CC,fcmp]
 | x::a,y::b=>by rw[CC,IL a b,GE,LB];rfl
theorem LM:∀ a b:List Vl,CC vcmp a b=lcmp a b
 | [],[]=>by simp[CC,lcmp]
 | [],_::_=>by simp[CC,lcmp]
 | _::_,[]=>by simp[CC,lcmp]
 | x::a,y::b=>by rw[CC,LM a b,GH]
theorem KO:∀ a b:List (Vl×Vl),CC N9 a b=pcmp a b
 | [],[]=>by simp[CC,pcmp]
 | [],_::_=>by simp[CC,pcmp]
 | _::_,[]=>by simp[CC,pcmp]
 | x::a,y::b=>by rw[CC,KO a b,GL,LB];rfl
abbrev fd(f:Int×Vl):List Dat:=.cell (.int .i64 f.1)::vd f.2
abbrev pd(p:Vl×Vl):List Dat:=vd p.1++vd p.2
set_option maxHeartbeats 1000000 in
theorem J7(f:FuncId)(hfc:B4 Tryz.prog f=true)(c:Int×Vl->Int×Vl->Int)(a b:List (Int×Vl))(ha:a.length<=1000000)(hb:b.length<=1000000)(hc:∀ x∈a,∀ y∈b,EF Tryz.prog [] f [.many (fd x),.many (fd y)] (.part (iP (c x y)))):
  EF Tryz.prog [] 81 [.one (.row 8 a.length (a.flatMap fieldDats)),.one (.row 8 b.length (b.flatMap fieldDats)),fP f] (.part (iP (CC c a b))):=by
 refine AG 39 Tryz.func81 rfl rfl rfl fun w D=>?_
 try refine A3 ?_
 refine A2 (AC rfl rfl rfl rfl rfl .nil) ?_
 try refine A3 ?_
 refine A2 (A9 rfl rfl rfl rfl rfl (A4 rfl rfl rfl (AR rfl (kn rfl) sle_23) (A9 rfl rfl rfl rfl rfl .nil))) ?_
 try refine A3 ?_
 refine AX (ι:={ k:Nat // k<=a.length/\k<=b.length/\CC c (a.drop k) (b.drop k)=CC c a b })
  (fun k=>[(0,.part (.one (.row 8 a.length (a.flatMap fieldDats)))),(1,.part (.one (.row 8 b.length (b.flatMap fieldDats)))),(2,.part (fP f)),(11,.part (.one (.row 8 a.length (a.flatMap fieldDats)))),(12,.is (.int .i64 (a.length:Int))),(13,.is (.int .i64 (k.1:Int)))])
  (fun _=>[]) (fun _=>[]) (fun k=>a.length-k.1) ⟨0,by omega,by omega,rfl⟩
  (fun K=>AL ⟨s_t,s_t,s_t,s_t,s_t,s_t,trivial⟩ trivial trivial) ?_
 rintro⟨k,hk,hk2,hw⟩
 dsimp only at hk hk2 hw ⊢
 try refine A3 ?_
 refine A2 (A4 rfl rfl rfl (A6 rfl (kn rfl) (kn rfl) AY) .nil) ?_
 try refine A3 ?_
 refine AB rfl (fun h=>?_) (fun h=>?_)
 ·have hlt:k<a.length:=by have:=of_decide_eq_true h;omega
  obtain⟨x,hx⟩:∃ x,a[k]?=some x:=⟨_,List.getElem?_eq_getElem hlt⟩
  try refine A3 ?_
  refine AI ?_
  refine D9 ?_
  refine AQ (AJ rfl (kn rfl) (kn rfl) (by omega) hx B3 sle_23 esz_23 (B6 x)) ?_
  refine AQ (AH rfl (kn rfl) agg_79 sz_79) ?_
  refine AW 8 [.is (.int .i64 0),.is (.int .i64 0),.is (.int .u64 0),.is (.string ⟨#[]⟩),.is (.slice none 0 0),.is (.string ⟨#[]⟩),.is (.slice none 0 0),.is (.slice none 0 0)] rfl rfl rfl rfl zr_79 (fun w D M V=>⟨rfl,fun j x v h1 h2=>AV _ h1 h2 rfl⟩) rfl rfl rfl rfl ?_
  refine BX ?_
  refine AT rfl rfl rfl (kn rfl) rfl (kn rfl) rfl rfl sz_79 ?_
  refine AM ?_
  try refine A3 ?_
  refine A2 (A9 rfl rfl rfl rfl rfl (A9 rfl rfl rfl rfl rfl (A4 rfl rfl rfl (AR rfl (kn rfl) sle_23) (A4 rfl rfl rfl (A6 rfl (kn rfl) (kn rfl) CM) .nil)))) ?_
  try refine A3 ?_
  refine AB rfl (fun h3=>?_) (fun h3=>?_)
  ·obtain rfl:k=b.length:=by have:=of_decide_eq_true h3;omega
   have e:CC c a b=1:=by
    rw[<- hw,EX _ _ (.inr (List.drop_eq_nil_of_le (Nat.le_refl _))),List.length_drop,List.length_drop,CZ _ _ _ hk hk2]
    exact HJ hlt
   try refine A3 ?_
   refine A2 (AC rfl rfl rfl rfl rfl .nil) ?_
   try refine A3 ?_
   exact A8 rfl rfl (.tmp (kn rfl) (.nil)) (Imp.of_eq (by rw[e];rfl)) rfl
  have hlt2:k<b.length:=by have:=of_decide_eq_false h3;omega
  obtain⟨y,hy⟩:∃ y,b[k]?=some y:=⟨_,List.getElem?_eq_getElem hlt2⟩
  rw[BC hx,BC hy,CC]at hw
  try refine A3 ?_
  refine AI ?_
  refine D9 ?_
  refine D9 ?_
  refine AQ (AJ rfl (kn rfl) (kn rfl) (by omega) hy B3 sle_23 esz_23 (B6 y)) ?_
  refine AQ (AH rfl (kn rfl) agg_79 sz_79) ?_
  refine AW 9 [.is (.int .i64 0),.is (.int .i64 0),.is (.int .u64 0),.is (.string ⟨#[]⟩),.is (.slice none 0 0),.is (.string ⟨#[]⟩),.is (.slice none 0 0),.is (.slice none 0 0)] rfl rfl rfl rfl zr_79 (fun w D M V=>⟨rfl,fun j x v h1 h2=>AV _ h1 h2 rfl⟩) rfl rfl rfl rfl ?_
  refine AT rfl rfl rfl (kn rfl) rfl (kn rfl) rfl rfl sz_79 ?_
  refine AM ?_
  try refine A3 ?_
  refine A2 (A9 rfl rfl rfl rfl rfl (A4 rfl rfl rfl (A7 (ds:=[_,_,_,_,_,_,_,_]) 8 rfl (kn rfl) rfl rfl agg_79 sz_79 rfl) (A4 rfl rfl rfl (A7 (ds:=[_,_,_,_,_,_,_,_]) 8 rfl (kn rfl) rfl rfl agg_79 sz_79 rfl) (A4 rfl rfl rfl (BY rfl hfc (kn rfl) (hc x (List.mem_of_getElem? hx) y (List.mem_of_getElem? hy)) ⟨kn rfl,kn rfl,trivial⟩) (AC rfl rfl rfl rfl rfl .nil))))) ?_
  try refine A3 ?_
  refine A2 (A9 rfl rfl rfl rfl rfl (A4 rfl rfl rfl (A6 rfl (kn rfl) (kn rfl) BI) .nil)) ?_
  try refine A3 ?_
  refine AB rfl (fun h4=>?_) (fun h4=>?_)
  ·have e:CC c a b=c x y:=by rw[<- hw];exact CL (by simpa using h4)
   try refine A3 ?_
   refine A2 (A9 rfl rfl rfl rfl rfl (AC rfl rfl rfl rfl rfl .nil)) ?_
   try refine A3 ?_
   exact A8 rfl rfl (.tmp (kn rfl) (.nil)) (Imp.of_eq (by rw[e];rfl)) rfl
  rw[D8 (by simpa using h4)]at hw
  try refine A3 ?_
  refine A2 (A4 rfl rfl rfl (A6 rfl (kn rfl) (kn rfl) (AK (by first | omega | (dsimp only;omega)))) (A9 rfl rfl rfl rfl rfl .nil)) ?_
  try refine A3 ?_
  refine AS ⟨k+1,by omega,by omega,hw⟩ (by dsimp only;omega) (fun K=>AL ⟨s_t,s_t,s_t,s_t,s_t,s_t,trivial⟩ trivial trivial)
 obtain rfl:k=a.length:=by have:=of_decide_eq_false h;omega
 have e:CC c a b=ncmp a.length b.length:=by
  rw[<- hw,EX _ _ (.inl (List.drop_eq_nil_of_le (Nat.le_refl _))),List.length_drop,List.length_drop,CZ _ _ _ hk hk2]
 try refine A3 ?_
 refine A2 (A9 rfl rfl rfl rfl rfl (A4 rfl rfl rfl (AR rfl (kn rfl) sle_23) (A9 rfl rfl rfl rfl rfl (A4 rfl rfl rfl (AR rfl (kn rfl) sle_23) (A4 rfl rfl rfl (A6 rfl (kn rfl) (kn rfl) AY) .nil))))) ?_
 try refine A3 ?_
 refine AB rfl (fun h4=>?_) (fun h4=>?_)
 ·have e2:CC c a b = -1:=by rw[e];exact HF (by have:=of_decide_eq_true h4;omega)
  try refine A3 ?_
  refine A2 (AC rfl rfl rfl rfl rfl .nil) ?_
  try refine A3 ?_
  exact A8 rfl rfl (.tmp (kn rfl) (.nil)) (Imp.of_eq (by rw[e2];rfl)) rfl
 have e2:CC c a b=0:=by rw[e];exact HG (by have:=of_decide_eq_false h4;omega)
 try refine A3 ?_
 refine A2 (AC rfl rfl rfl rfl rfl .nil) ?_
 try refine A3 ?_
 exact A8 rfl rfl (.tmp (kn rfl) (.nil)) (Imp.of_eq (by rw[e2];rfl)) rfl
set_option maxHeartbeats 1000000 in
theorem L5(f:FuncId)(hfc:B4 Tryz.prog f=true)(c:Vl->Vl->Int)(a b:List (Vl))(ha:a.length<=1000000)(hb:b.length<=1000000)(hc:∀ x∈a,∀ y∈b,EF Tryz.prog [] f [.many (vd x),.many (vd y)] (.part (iP (c x y)))):
  EF Tryz.prog [] 83 [.one (.row 7 a.length (a.flatMap Vl.dats)),.one (.row 7 b.length (b.flatMap Vl.dats)),fP f] (.part (iP (CC c a b))):=by
 refine AG 39 Tryz.func83 rfl rfl rfl fun w D=>?_
 try refine A3 ?_
 refine A2 (AC rfl rfl rfl rfl rfl .nil) ?_
 try refine A3 ?_
 refine A2 (A9 rfl rfl rfl rfl rfl (A4 rfl rfl rfl (AR rfl (kn rfl) sle_24) (A9 rfl rfl rfl rfl rfl .nil))) ?_
 try refine A3 ?_
 refine AX (ι:={ k:Nat // k<=a.length/\k<=b.length/\CC c (a.drop k) (b.drop k)=CC c a b })
  (fun k=>[(0,.part (.one (.row 7 a.length (a.flatMap Vl.dats)))),(1,.part (.one (.row 7 b.length (b.flatMap Vl.dats)))),(2,.part (fP f)),(11,.part (.one (.row 7 a.length (a.flatMap Vl.dats)))),(12,.is (.int .i64 (a.length:Int))),(13,.is (.int .i64 (k.1:Int)))])
  (fun _=>[]) (fun _=>[]) (fun k=>a.length-k.1) ⟨0,by omega,by omega,rfl⟩
  (fun K=>AL ⟨s_t,s_t,s_t,s_t,s_t,s_t,trivial⟩ trivial trivial) ?_
 rintro⟨k,hk,hk2,hw⟩
 dsimp only at hk hk2 hw ⊢
 try refine A3 ?_
 refine A2 (A4 rfl rfl rfl (A6 rfl (kn rfl) (kn rfl) AY) .nil) ?_
 try refine A3 ?_
 refine AB rfl (fun h=>?_) (fun h=>?_)
 ·have hlt:k<a.length:=by have:=of_decide_eq_true h;omega
  obtain⟨x,hx⟩:∃ x,a[k]?=some x:=⟨_,List.getElem?_eq_getElem hlt⟩
  try refine A3 ?_
  refine AI ?_
  refine D9 ?_
  refine AQ (AJ rfl (kn rfl) (kn rfl) (by omega) hx Vl.dats_len sle_24 esz_24 (CB x)) ?_
  refine AQ (AH rfl (kn rfl) agg_27 sz_27) ?_
  refine AW 8 [.is (.int .i64 0),.is (.int .u64 0),.is (.string ⟨#[]⟩),.is (.slice none 0 0),.is (.string ⟨#[]⟩),.is (.slice none 0 0),.is (.slice none 0 0)] rfl rfl rfl rfl zr_27 (fun w D M V=>⟨rfl,fun j x v h1 h2=>AV _ h1 h2 rfl⟩) rfl rfl rfl rfl ?_
  refine BX ?_
  refine AT rfl rfl rfl (kn rfl) rfl (kn rfl) rfl rfl sz_27 ?_
  refine AM ?_
  try refine A3 ?_
  refine A2 (A9 rfl rfl rfl rfl rfl (A9 rfl rfl rfl rfl rfl (A4 rfl rfl rfl (AR rfl (kn rfl) sle_24) (A4 rfl rfl rfl (A6 rfl (kn rfl) (kn rfl) CM) .nil)))) ?_
  try refine A3 ?_
  refine AB rfl (fun h3=>?_) (fun h3=>?_)
  ·obtain rfl:k=b.length:=by have:=of_decide_eq_true h3;omega
   have e:CC c a b=1:=by
    rw[<- hw,EX _ _ (.inr (List.drop_eq_nil_of_le (Nat.le_refl _))),List.length_drop,List.length_drop,CZ _ _ _ hk hk2]
    exact HJ hlt
   try refine A3 ?_
   refine A2 (AC rfl rfl rfl rfl rfl .nil) ?_
   try refine A3 ?_
   exact A8 rfl rfl (.tmp (kn rfl) (.nil)) (Imp.of_eq (by rw[e];rfl)) rfl
  have hlt2:k<b.length:=by have:=of_decide_eq_false h3;omega
  obtain⟨y,hy⟩:∃ y,b[k]?=some y:=⟨_,List.getElem?_eq_getElem hlt2⟩
  rw[BC hx,BC hy,CC]at hw
  try refine A3 ?_
  refine AI ?_
  refine D9 ?_
  refine D9 ?_
  refine AQ (AJ rfl (kn rfl) (kn rfl) (by omega) hy Vl.dats_len sle_24 esz_24 (CB y)) ?_
  refine AQ (AH rfl (kn rfl) agg_27 sz_27) ?_
  refine AW 9 [.is (.int .i64 0),.is (.int .u64 0),.is (.string ⟨#[]⟩),.is (.slice none 0 0),.is (.string ⟨#[]⟩),.is (.slice none 0 0),.is (.slice none 0 0)] rfl rfl rfl rfl zr_27 (fun w D M V=>⟨rfl,fun j x v h1 h2=>AV _ h1 h2 rfl⟩) rfl rfl rfl rfl ?_
  refine AT rfl rfl rfl (kn rfl) rfl (kn rfl) rfl rfl sz_27 ?_
  refine AM ?_
  try refine A3 ?_
  refine A2 (A9 rfl rfl rfl rfl rfl (A4 rfl rfl rfl (A7 (ds:=[_,_,_,_,_,_,_]) 7 rfl (kn rfl) rfl rfl agg_27 sz_27 rfl) (A4 rfl rfl rfl (A7 (ds:=[_,_,_,_,_,_,_]) 7 rfl (kn rfl) rfl rfl agg_27 sz_27 rfl) (A4 rfl rfl rfl (BY rfl hfc (kn rfl) (hc x (List.mem_of_getElem? hx) y (List.mem_of_getElem? hy)) ⟨kn rfl,kn rfl,trivial⟩) (AC rfl rfl rfl rfl rfl .nil))))) ?_
  try refine A3 ?_
  refine A2 (A9 rfl rfl rfl rfl rfl (A4 rfl rfl rfl (A6 rfl (kn rfl) (kn rfl) BI) .nil)) ?_
  try refine A3 ?_
  refine AB rfl (fun h4=>?_) (fun h4=>?_)
  ·have e:CC c a b=c x y:=by rw[<- hw];exact CL (by simpa using h4)
   try refine A3 ?_
   refine A2 (A9 rfl rfl rfl rfl rfl (AC rfl rfl rfl rfl rfl .nil)) ?_
   try refine A3 ?_
   exact A8 rfl rfl (.tmp (kn rfl) (.nil)) (Imp.of_eq (by rw[e];rfl)) rfl
  rw[D8 (by simpa using h4)]at hw
  try refine A3 ?_
  refine A2 (A4 rfl rfl rfl (A6 rfl (kn rfl) (kn rfl) (AK (by first | omega | (dsimp only;omega)))) (A9 rfl rfl rfl rfl rfl .nil)) ?_
  try refine A3 ?_
  refine AS ⟨k+1,by omega,by omega,hw⟩ (by dsimp only;omega) (fun K=>AL ⟨s_t,s_t,s_t,s_t,s_t,s_t,trivial⟩ trivial trivial)
 obtain rfl:k=a.length:=by have:=of_decide_eq_false h;omega
 have e:CC c a b=ncmp a.length b.length:=by
  rw[<- hw,EX _ _ (.inl (List.drop_eq_nil_of_le (Nat.le_refl _))),List.length_drop,List.length_drop,CZ _ _ _ hk hk2]
 try refine A3 ?_
 refine A2 (A9 rfl rfl rfl rfl rfl (A4 rfl rfl rfl (AR rfl (kn rfl) sle_24) (A9 rfl rfl rfl rfl rfl (A4 rfl rfl rfl (AR rfl (kn rfl) sle_24) (A4 rfl rfl rfl (A6 rfl (kn rfl) (kn rfl) AY) .nil))))) ?_
 try refine A3 ?_
 refine AB rfl (fun h4=>?_) (fun h4=>?_)
 ·have e2:CC c a b = -1:=by rw[e];exact HF (by have:=of_decide_eq_true h4;omega)
  try refine A3 ?_
  refine A2 (AC rfl rfl rfl rfl rfl .nil) ?_
  try refine A3 ?_
  exact A8 rfl rfl (.tmp (kn rfl) (.nil)) (Imp.of_eq (by rw[e2];rfl)) rfl
 have e2:CC c a b=0:=by rw[e];exact HG (by have:=of_decide_eq_false h4;omega)
 try refine A3 ?_
 refine A2 (AC rfl rfl rfl rfl rfl .nil) ?_
 try refine A3 ?_
 exact A8 rfl rfl (.tmp (kn rfl) (.nil)) (Imp.of_eq (by rw[e2];rfl)) rfl
set_option maxHeartbeats 1000000 in
theorem K9(f:FuncId)(hfc:B4 Tryz.prog f=true)(c:Vl×Vl->Vl×Vl->Int)(a b:List (Vl×Vl))(ha:a.length<=1000000)(hb:b.length<=1000000)(hc:∀ x∈a,∀ y∈b,EF Tryz.prog [] f [.many (pd x),.many (pd y)] (.part (iP (c x y)))):
  EF Tryz.prog [] 84 [.one (.row 14 a.length (a.flatMap pairDats)),.one (.row 14 b.length (b.flatMap pairDats)),fP f] (.part (iP (CC c a b))):=by
 refine AG 39 Tryz.func84 rfl rfl rfl fun w D=>?_
 try refine A3 ?_
 refine A2 (AC rfl rfl rfl rfl rfl .nil) ?_
 try refine A3 ?_
 refine A2 (A9 rfl rfl rfl rfl rfl (A4 rfl rfl rfl (AR rfl (kn rfl) sle_25) (A9 rfl rfl rfl rfl rfl .nil))) ?_
 try refine A3 ?_
 refine AX (ι:={ k:Nat // k<=a.length/\k<=b.length/\CC c (a.drop k) (b.drop k)=CC c a b })
  (fun k=>[(0,.part (.one (.row 14 a.length (a.flatMap pairDats)))),(1,.part (.one (.row 14 b.length (b.flatMap pairDats)))),(2,.part (fP f)),(11,.part (.one (.row 14 a.length (a.flatMap pairDats)))),(12,.is (.int .i64 (a.length:Int))),(13,.is (.int .i64 (k.1:Int)))])
  (fun _=>[]) (fun _=>[]) (fun k=>a.length-k.1) ⟨0,by omega,by omega,rfl⟩
  (fun K=>AL ⟨s_t,s_t,s_t,s_t,s_t,s_t,trivial⟩ trivial trivial) ?_
 rintro⟨k,hk,hk2,hw⟩
 dsimp only at hk hk2 hw ⊢
 try refine A3 ?_
 refine A2 (A4 rfl rfl rfl (A6 rfl (kn rfl) (kn rfl) AY) .nil) ?_
 try refine A3 ?_
 refine AB rfl (fun h=>?_) (fun h=>?_)
 ·have hlt:k<a.length:=by have:=of_decide_eq_true h;omega
  obtain⟨x,hx⟩:∃ x,a[k]?=some x:=⟨_,List.getElem?_eq_getElem hlt⟩
  try refine A3 ?_
  refine AI ?_
  refine D9 ?_
  refine AQ (AJ rfl (kn rfl) (kn rfl) (by omega) hx B5 sle_25 esz_25 (BA x)) ?_
  refine AQ (AH rfl (kn rfl) agg_83 sz_83) ?_
  refine AW 8 [.is (.int .i64 0),.is (.int .u64 0),.is (.string ⟨#[]⟩),.is (.slice none 0 0),.is (.string ⟨#[]⟩),.is (.slice none 0 0),.is (.slice none 0 0),.is (.int .i64 0),.is (.int .u64 0),.is (.string ⟨#[]⟩),.is (.slice none 0 0),.is (.string ⟨#[]⟩),.is (.slice none 0 0),.is (.slice none 0 0)] rfl rfl rfl rfl zr_83 (fun w D M V=>⟨rfl,fun j x v h1 h2=>AV _ h1 h2 rfl⟩) rfl rfl rfl rfl ?_
  refine BX ?_
  refine AT rfl rfl rfl (kn rfl) rfl (kn rfl) rfl rfl sz_83 ?_
  refine AM ?_
  try refine A3 ?_
  refine A2 (A9 rfl rfl rfl rfl rfl (A9 rfl rfl rfl rfl rfl (A4 rfl rfl rfl (AR rfl (kn rfl) sle_25) (A4 rfl rfl rfl (A6 rfl (kn rfl) (kn rfl) CM) .nil)))) ?_
  try refine A3 ?_
  refine AB rfl (fun h3=>?_) (fun h3=>?_)
  ·obtain rfl:k=b.length:=by have:=of_decide_eq_true h3;omega
   have e:CC c a b=1:=by
    rw[<- hw,EX _ _ (.inr (List.drop_eq_nil_of_le (Nat.le_refl _))),List.length_drop,List.length_drop,CZ _ _ _ hk hk2]
    exact HJ hlt
   try refine A3 ?_
   refine A2 (AC rfl rfl rfl rfl rfl .nil) ?_
   try refine A3 ?_
   exact A8 rfl rfl (.tmp (kn rfl) (.nil)) (Imp.of_eq (by rw[e];rfl)) rfl
  have hlt2:k<b.length:=by have:=of_decide_eq_false h3;omega
  obtain⟨y,hy⟩:∃ y,b[k]?=some y:=⟨_,List.getElem?_eq_getElem hlt2⟩
  rw[BC hx,BC hy,CC]at hw
  try refine A3 ?_
  refine AI ?_
  refine D9 ?_
  refine D9 ?_
  refine AQ (AJ rfl (kn rfl) (kn rfl) (by omega) hy B5 sle_25 esz_25 (BA y)) ?_
  refine AQ (AH rfl (kn rfl) agg_83 sz_83) ?_
  refine AW 9 [.is (.int .i64 0),.is (.int .u64 0),.is (.string ⟨#[]⟩),.is (.slice none 0 0),.is (.string ⟨#[]⟩),.is (.slice none 0 0),.is (.slice none 0 0),.is (.int .i64 0),.is (.int .u64 0),.is (.string ⟨#[]⟩),.is (.slice none 0 0),.is (.string ⟨#[]⟩),.is (.slice none 0 0),.is (.slice none 0 0)] rfl rfl rfl rfl zr_83 (fun w D M V=>⟨rfl,fun j x v h1 h2=>AV _ h1 h2 rfl⟩) rfl rfl rfl rfl ?_
  refine AT rfl rfl rfl (kn rfl) rfl (kn rfl) rfl rfl sz_83 ?_
  refine AM ?_
  try refine A3 ?_
  refine A2 (A9 rfl rfl rfl rfl rfl (A4 rfl rfl rfl (A7 (ds:=[_,_,_,_,_,_,_,_,_,_,_,_,_,_]) 14 rfl (kn rfl) rfl rfl agg_83 sz_83 rfl) (A4 rfl rfl rfl (A7 (ds:=[_,_,_,_,_,_,_,_,_,_,_,_,_,_]) 14 rfl (kn rfl) rfl rfl agg_83 sz_83 rfl) (A4 rfl rfl rfl (BY rfl hfc (kn rfl) (hc x (List.mem_of_getElem? hx) y (List.mem_of_getElem? hy)) ⟨kn rfl,kn rfl,trivial⟩) (AC rfl rfl rfl rfl rfl .nil))))) ?_
  try refine A3 ?_
  refine A2 (A9 rfl rfl rfl rfl rfl (A4 rfl rfl rfl (A6 rfl (kn rfl) (kn rfl) BI) .nil)) ?_
  try refine A3 ?_
  refine AB rfl (fun h4=>?_) (fun h4=>?_)
  ·have e:CC c a b=c x y:=by rw[<- hw];exact CL (by simpa using h4)
   try refine A3 ?_
   refine A2 (A9 rfl rfl rfl rfl rfl (AC rfl rfl rfl rfl rfl .nil)) ?_
   try refine A3 ?_
   exact A8 rfl rfl (.tmp (kn rfl) (.nil)) (Imp.of_eq (by rw[e];rfl)) rfl
  rw[D8 (by simpa using h4)]at hw
  try refine A3 ?_
  refine A2 (A4 rfl rfl rfl (A6 rfl (kn rfl) (kn rfl) (AK (by first | omega | (dsimp only;omega)))) (A9 rfl rfl rfl rfl rfl .nil)) ?_
  try refine A3 ?_
  refine AS ⟨k+1,by omega,by omega,hw⟩ (by dsimp only;omega) (fun K=>AL ⟨s_t,s_t,s_t,s_t,s_t,s_t,trivial⟩ trivial trivial)
 obtain rfl:k=a.length:=by have:=of_decide_eq_false h;omega
 have e:CC c a b=ncmp a.length b.length:=by
  rw[<- hw,EX _ _ (.inl (List.drop_eq_nil_of_le (Nat.le_refl _))),List.length_drop,List.length_drop,CZ _ _ _ hk hk2]
 try refine A3 ?_
 refine A2 (A9 rfl rfl rfl rfl rfl (A4 rfl rfl rfl (AR rfl (kn rfl) sle_25) (A9 rfl rfl rfl rfl rfl (A4 rfl rfl rfl (AR rfl (kn rfl) sle_25) (A4 rfl rfl rfl (A6 rfl (kn rfl) (kn rfl) AY) .nil))))) ?_
 try refine A3 ?_
 refine AB rfl (fun h4=>?_) (fun h4=>?_)
 ·have e2:CC c a b = -1:=by rw[e];exact HF (by have:=of_decide_eq_true h4;omega)
  try refine A3 ?_
  refine A2 (AC rfl rfl rfl rfl rfl .nil) ?_
  try refine A3 ?_
  exact A8 rfl rfl (.tmp (kn rfl) (.nil)) (Imp.of_eq (by rw[e2];rfl)) rfl
 have e2:CC c a b=0:=by rw[e];exact HG (by have:=of_decide_eq_false h4;omega)
 try refine A3 ?_
 refine A2 (AC rfl rfl rfl rfl rfl .nil) ?_
 try refine A3 ?_
 exact A8 rfl rfl (.tmp (kn rfl) (.nil)) (Imp.of_eq (by rw[e2];rfl)) rfl
end Go.Proofs.YtojdpgeeajaojaaGreat
