/- Part 17. Conditions: as each theorem says. -/
import Derived.Test.YtecfdcdkkgmkpaaIO16
import Derived.Test.YtecfdcdkkgmkpaaProg
import Derived.Lib.Bytealg
import Derived.Laws.Externs
set_option maxRecDepth 100000
namespace Go.Proofs.Ytecfdcdkkgmkpaa
open Go.RowKit
theorem IM(a:Int):EF Try.prog [] 96 [iP a] (.part (tP false)):=by
 refine AH 6 Try.func96 rfl rfl rfl fun w D=>?_
 try refine A2 ?_
 refine A1 (AC rfl rfl rfl rfl rfl .nil) ?_
 try refine A2 ?_
 refine A1 (A9 rfl rfl rfl rfl rfl (A9 rfl rfl rfl rfl rfl (A4 rfl rfl rfl (A6 rfl (kn rfl) (kn rfl) CE) (AC rfl rfl rfl rfl rfl .nil)))) ?_
 try refine A2 ?_
 exact A8 rfl rfl (.tmp (kn rfl) (.nil)) (Imp.of_eq (by simp;rfl)) rfl
theorem KO(a b:Int):EF Try.prog [] 77 [iP a,iP b] (.part (iP (EI a b))):=by
 refine AH 20 Try.func77 rfl rfl rfl fun w D=>?_
 try refine A2 ?_
 refine A1 (AC rfl rfl rfl rfl rfl .nil) ?_
 try refine A2 ?_
 refine A1 (A9 rfl rfl rfl rfl rfl (A4 rfl rfl rfl (AE rfl (by kernel_rfl) (IM a) ⟨(kn rfl),trivial⟩) (AC rfl rfl rfl rfl rfl .nil))) ?_
 try refine A2 ?_
 refine A1 (A9 rfl rfl rfl rfl rfl (A4 rfl rfl rfl (AE rfl (by kernel_rfl) (IM b) ⟨(kn rfl),trivial⟩) (AC rfl rfl rfl rfl rfl .nil))) ?_
 try refine A2 ?_
 refine A1 (A9 rfl rfl rfl rfl rfl .nil) ?_
 try refine A2 ?_
 refine PG ?_
 try refine A2 ?_
 refine A1 (A9 rfl rfl rfl rfl rfl .nil) ?_
 try refine A2 ?_
 refine PG ?_
 try refine A2 ?_
 refine A1 (A9 rfl rfl rfl rfl rfl (A9 rfl rfl rfl rfl rfl (A4 rfl rfl rfl (A6 rfl (kn rfl) (kn rfl) B7) .nil))) ?_
 try refine A2 ?_
 refine AA rfl (fun h=>?_) (fun h=>?_)
 ·have e:EI a b = -1:=O7 (by have:=of_decide_eq_true h;omega)
  try refine A2 ?_
  refine A1 (AC rfl rfl rfl rfl rfl .nil) ?_
  try refine A2 ?_
  exact A8 rfl rfl (.tmp (kn rfl) (.nil)) (Imp.of_eq (by rw[e];rfl)) rfl
 try refine A2 ?_
 refine A1 (A9 rfl rfl rfl rfl rfl (A9 rfl rfl rfl rfl rfl (A4 rfl rfl rfl (A6 rfl (kn rfl) (kn rfl) D7) .nil))) ?_
 try refine A2 ?_
 refine AA rfl (fun h2=>?_) (fun h2=>?_)
 ·have e:EI a b=1:=O9 (by have:=of_decide_eq_true h2;omega)
  try refine A2 ?_
  refine A1 (AC rfl rfl rfl rfl rfl .nil) ?_
  try refine A2 ?_
  exact A8 rfl rfl (.tmp (kn rfl) (.nil)) (Imp.of_eq (by rw[e];rfl)) rfl
 have e:EI a b=0:=KD (by have:=of_decide_eq_false h;have:=of_decide_eq_false h2;omega)
 try refine A2 ?_
 refine A1 (AC rfl rfl rfl rfl rfl .nil) ?_
 try refine A2 ?_
 exact A8 rfl rfl (.tmp (kn rfl) (.nil)) (Imp.of_eq (by rw[e];rfl)) rfl
theorem IH(a:Nat):EF Try.prog [] 97 [uP a] (.part (tP false)):=by
 refine AH 6 Try.func97 rfl rfl rfl fun w D=>?_
 try refine A2 ?_
 refine A1 (AC rfl rfl rfl rfl rfl .nil) ?_
 try refine A2 ?_
 refine A1 (A9 rfl rfl rfl rfl rfl (A9 rfl rfl rfl rfl rfl (A4 rfl rfl rfl (A6 rfl (kn rfl) (kn rfl) CE) (AC rfl rfl rfl rfl rfl .nil)))) ?_
 try refine A2 ?_
 exact A8 rfl rfl (.tmp (kn rfl) (.nil)) (Imp.of_eq (by simp;rfl)) rfl
theorem QI(a b:Nat):EF Try.prog [] 78 [uP a,uP b] (.part (iP (ncmp a b))):=by
 refine AH 20 Try.func78 rfl rfl rfl fun w D=>?_
 try refine A2 ?_
 refine A1 (AC rfl rfl rfl rfl rfl .nil) ?_
 try refine A2 ?_
 refine A1 (A9 rfl rfl rfl rfl rfl (A4 rfl rfl rfl (AE rfl (by kernel_rfl) (IH a) ⟨(kn rfl),trivial⟩) (AC rfl rfl rfl rfl rfl .nil))) ?_
 try refine A2 ?_
 refine A1 (A9 rfl rfl rfl rfl rfl (A4 rfl rfl rfl (AE rfl (by kernel_rfl) (IH b) ⟨(kn rfl),trivial⟩) (AC rfl rfl rfl rfl rfl .nil))) ?_
 try refine A2 ?_
 refine A1 (A9 rfl rfl rfl rfl rfl .nil) ?_
 try refine A2 ?_
 refine PG ?_
 try refine A2 ?_
 refine A1 (A9 rfl rfl rfl rfl rfl .nil) ?_
 try refine A2 ?_
 refine PG ?_
 try refine A2 ?_
 refine A1 (A9 rfl rfl rfl rfl rfl (A9 rfl rfl rfl rfl rfl (A4 rfl rfl rfl (A6 rfl (kn rfl) (kn rfl) B7) .nil))) ?_
 try refine A2 ?_
 refine AA rfl (fun h=>?_) (fun h=>?_)
 ·have e:ncmp a b = -1:=IG (by have:=of_decide_eq_true h;omega)
  try refine A2 ?_
  refine A1 (AC rfl rfl rfl rfl rfl .nil) ?_
  try refine A2 ?_
  exact A8 rfl rfl (.tmp (kn rfl) (.nil)) (Imp.of_eq (by rw[e];rfl)) rfl
 try refine A2 ?_
 refine A1 (A9 rfl rfl rfl rfl rfl (A9 rfl rfl rfl rfl rfl (A4 rfl rfl rfl (A6 rfl (kn rfl) (kn rfl) D7) .nil))) ?_
 try refine A2 ?_
 refine AA rfl (fun h2=>?_) (fun h2=>?_)
 ·have e:ncmp a b=1:=IU (by have:=of_decide_eq_true h2;omega)
  try refine A2 ?_
  refine A1 (AC rfl rfl rfl rfl rfl .nil) ?_
  try refine A2 ?_
  exact A8 rfl rfl (.tmp (kn rfl) (.nil)) (Imp.of_eq (by rw[e];rfl)) rfl
 have e:ncmp a b=0:=IS (by have:=of_decide_eq_false h;have:=of_decide_eq_false h2;omega)
 try refine A2 ?_
 refine A1 (AC rfl rfl rfl rfl rfl .nil) ?_
 try refine A2 ?_
 exact A8 rfl rfl (.tmp (kn rfl) (.nil)) (Imp.of_eq (by rw[e];rfl)) rfl
theorem KN:∀ a b:List UInt8,Lib.compareBytes a b=tcmp a b
 | [],[]=>rfl
 | [],_::_=>rfl
 | _::_,[]=>rfl
 | x::a,y::b=>by
  rw[Lib.compareBytes,tcmp,KN a b]
  simp only[UInt8.lt_iff_toNat_lt]
theorem LW(a b:List UInt8)(w:World):(callFunc 110 #[.string (str a),.string (str b)]).run Try.prog w=.ok (.value (.int .i64 (tcmp a b))) w:=by
 rw[run_callFunc_extern (e:=Extern.BytealgCompare.compare) Try.func110 (by kernel_rfl) (by kernel_rfl) (by rfl) (by rfl),Lib.run_compareString]
 show Result.ok _ w=_
 rw[show Lib.compareBytes (str a).data.toList (str b).data.toList=tcmp a b from KN a b]
theorem SP(a b:List UInt8):EF Try.prog [] 98 [sP a,sP b] (.part (iP (tcmp a b))):=by
 refine AH 8 Try.func98 rfl rfl rfl fun w D=>?_
 try refine A2 ?_
 refine A1 (AC rfl rfl rfl rfl rfl .nil) ?_
 try refine A2 ?_
 refine A1 (A9 rfl rfl rfl rfl rfl (A9 rfl rfl rfl rfl rfl (A4 rfl rfl rfl (WL rfl (LW a b) (kn rfl) (kn rfl)) (AC rfl rfl rfl rfl rfl .nil)))) ?_
 try refine A2 ?_
 exact A8 rfl rfl (.tmp (kn rfl) (.nil)) (Imp.of_eq rfl) rfl
theorem N5(a b:List UInt8):EF Try.prog [] 79 [sP a,sP b] (.part (iP (tcmp a b))):=by
 refine AH 8 Try.func79 rfl rfl rfl fun w D=>?_
 try refine A2 ?_
 refine A1 (AC rfl rfl rfl rfl rfl .nil) ?_
 try refine A2 ?_
 refine A1 (A9 rfl rfl rfl rfl rfl (A9 rfl rfl rfl rfl rfl (A4 rfl rfl rfl (AE rfl (by kernel_rfl) (SP a b) ⟨(kn rfl),⟨(kn rfl),trivial⟩⟩) (AC rfl rfl rfl rfl rfl .nil)))) ?_
 try refine A2 ?_
 exact A8 rfl rfl (.tmp (kn rfl) (.nil)) (Imp.of_eq rfl) rfl
theorem X0(x y:Int):EF Try.prog [] 80 [.one (.row 1 2 [.cell (.int .i64 x),.cell (.int .i64 y)])] (.part (iP (lex x y))):=by
 refine AH 18 Try.func80 rfl rfl rfl fun w D=>?_
 try refine A2 ?_
 refine A1 (AC rfl rfl rfl rfl rfl .nil) ?_
 try refine A2 ?_
 refine A1 (AC rfl rfl rfl rfl rfl .nil) ?_
 try refine A2 ?_
 refine A1 (A9 rfl rfl rfl rfl rfl (A4 rfl rfl rfl (AT rfl (kn rfl) sle_70) (A9 rfl rfl rfl rfl rfl .nil))) ?_
 try refine A2 ?_
 refine BB (ι:={ k:Nat // k<=2/\(1<=k->x=0)/\(2<=k->y=0) })
  (fun k=>[(3,.is (.int .i64 0)),(6,.part (.one (.row 1 [x,y].length ([x,y].flatMap fun z=>[.cell (.int .i64 z)])))),(7,.is (.int .i64 2)),(8,.is (.int .i64 (k.1:Int)))])
  (fun _=>[]) (fun _=>[]) (fun k=>2-k.1) ⟨0,by omega,by omega,by omega⟩
  (fun K=>AM ⟨s_t,s_t,s_t,s_t,trivial⟩ trivial trivial) ?_
 rintro⟨k,hk,h1,h2⟩
 dsimp only at hk h1 h2 ⊢
 try refine A2 ?_
 refine A1 (A4 rfl rfl rfl (A6 rfl (kn rfl) (kn rfl) B7) .nil) ?_
 try refine A2 ?_
 refine AA rfl (fun h=>?_) (fun h=>?_)
 ·have hlt:k<2:=by have:=of_decide_eq_true h;omega
  obtain⟨z,hz⟩:∃ z,[x,y][k]?=some z:=⟨_,List.getElem?_eq_getElem hlt⟩
  try refine A2 ?_
  refine A1 (A4 rfl rfl rfl (AL rfl (kn rfl) (kn rfl) (by omega) hz (fun _=>rfl) sle_70 esz_70 rfl) (A4 rfl rfl rfl (AI rfl (kn rfl) one_3) (AC rfl rfl rfl rfl rfl .nil))) ?_
  try refine A2 ?_
  refine A1 (A9 rfl rfl rfl rfl rfl (A9 rfl rfl rfl rfl rfl (A4 rfl rfl rfl (A6 rfl (kn rfl) (kn rfl) CE) .nil))) ?_
  try refine A2 ?_
  refine AA rfl (fun h3=>?_) (fun h3=>?_)
  ·have hne:z≠0:=by simpa using h3
   have e:lex x y=z:=by
    rcases(show k=0\/k=1 by omega)with rfl | rfl
    ·obtain rfl:x=z:=by simpa using hz
     exact CR hne
    ·obtain rfl:y=z:=by simpa using hz
     exact DS (h1 (by omega))
   try refine A2 ?_
   refine A1 (A9 rfl rfl rfl rfl rfl (AC rfl rfl rfl rfl rfl .nil)) ?_
   try refine A2 ?_
   exact A8 rfl rfl (.tmp (kn rfl) (.nil)) (Imp.of_eq (by rw[e];rfl)) rfl
  have he:z=0:=by simpa using h3
  try refine A2 ?_
  refine A1 (A4 rfl rfl rfl (A6 rfl (kn rfl) (kn rfl) (AS (by first | omega | (dsimp only;omega)))) (A9 rfl rfl rfl rfl rfl .nil)) ?_
  try refine A2 ?_
  refine AR ⟨k+1,by omega,fun _=>?_,fun _=>?_⟩ (by dsimp only;omega) (fun K=>AM ⟨s_t,s_t,s_t,s_t,trivial⟩ trivial trivial)
  ·rcases(show k=0\/k=1 by omega)with rfl | rfl
   ·obtain rfl:x=z:=by simpa using hz
    exact he
   ·exact h1 (by omega)
  ·obtain rfl:k=1:=by omega
   obtain rfl:y=z:=by simpa using hz
   exact he
 obtain rfl:k=2:=by have:=of_decide_eq_false h;omega
 have e:lex x y=0:=by rw[DS (h1 (by omega)),h2 (by omega)]
 try refine A2 ?_
 refine A1 (A9 rfl rfl rfl rfl rfl (AC rfl rfl rfl rfl rfl .nil)) ?_
 try refine A2 ?_
 exact A8 rfl rfl (.tmp (kn rfl) (.nil)) (Imp.of_eq (by rw[e];rfl)) rfl
abbrev fP(f:FuncId):Part:=.one (.cell (.func (.func f) #[] #[]))
def CA{α:Type}(c:α->α->Int):List α->List α->Int
 | [],[]=>0
 | [],_::_ => -1
 | _::_,[]=>1
 | x::a,y::b=>lex (c x y) (CA c a b)
theorem FK{α:Type}{c:α->α->Int}:∀ (a b:List α),(a=[]\/b=[])->CA c a b=ncmp a.length b.length
 | [],[],_=>rfl
 | [],_::_,_=>by simp[CA,ncmp]
 | _::_,[],_=>by simp[CA,ncmp]
 | _::_,_::_,h=>by simp at h
theorem MX(x y z:Int):lex x (lex y z)=lex (lex x y) z:=by
 unfold lex
 by_cases h:x=0
 ·simp[h]
 ·simp[h]
def PF(f g:Int×Vl):Int:=lex (EI f.1 g.1) (vcmp f.2 g.2)
def OK(p q:Vl×Vl):Int:=lex (vcmp p.1 q.1) (vcmp p.2 q.2)
theorem K2:∀ a b:List (Int×Vl),CA PF a b=fcmp a b
 | [],[]=>by simp[CA,fcmp]
 | [],_::_=>by simp[CA,fcmp]
 | _::_,[]=>by simp[CA,fcmp]
 | x::a,y::b=>by rw[CA,K2 a b,GW,MX];rfl
theorem MW:∀ a b:List Vl,CA vcmp a b=lcmp a b
 | [],[]=>by simp[CA,lcmp]
 | [],_::_=>by simp[CA,lcmp]
 | _::_,[]=>by simp[CA,lcmp]
 | x::a,y::b=>by rw[CA,MW a b,H9]
theorem KG:∀ a b:List (Vl×Vl),CA OK a b=pcmp a b
 | [],[]=>by simp[CA,pcmp]
 | [],_::_=>by simp[CA,pcmp]
 | _::_,[]=>by simp[CA,pcmp]
 | x::a,y::b=>by rw[CA,KG a b,GY,MX];rfl
abbrev fd(f:Int×Vl):List Dat:=.cell (.int .i64 f.1)::vd f.2
abbrev pd(p:Vl×Vl):List Dat:=vd p.1++vd p.2
set_option maxHeartbeats 1000000 in
theorem K8(f:FuncId)(hfc:B8 Try.prog f=true)(c:Int×Vl->Int×Vl->Int)(a b:List (Int×Vl))(ha:a.length<=1000000)(hb:b.length<=1000000)(hc:∀ x∈a,∀ y∈b,EF Try.prog [] f [.many (fd x),.many (fd y)] (.part (iP (c x y)))):
  EF Try.prog [] 81 [.one (.row 8 a.length (a.flatMap fieldDats)),.one (.row 8 b.length (b.flatMap fieldDats)),fP f] (.part (iP (CA c a b))):=by
 refine AH 39 Try.func81 rfl rfl rfl fun w D=>?_
 try refine A2 ?_
 refine A1 (AC rfl rfl rfl rfl rfl .nil) ?_
 try refine A2 ?_
 refine A1 (A9 rfl rfl rfl rfl rfl (A4 rfl rfl rfl (AT rfl (kn rfl) sle_23) (A9 rfl rfl rfl rfl rfl .nil))) ?_
 try refine A2 ?_
 refine BB (ι:={ k:Nat // k<=a.length/\k<=b.length/\CA c (a.drop k) (b.drop k)=CA c a b })
  (fun k=>[(0,.part (.one (.row 8 a.length (a.flatMap fieldDats)))),(1,.part (.one (.row 8 b.length (b.flatMap fieldDats)))),(2,.part (fP f)),(11,.part (.one (.row 8 a.length (a.flatMap fieldDats)))),(12,.is (.int .i64 (a.length:Int))),(13,.is (.int .i64 (k.1:Int)))])
  (fun _=>[]) (fun _=>[]) (fun k=>a.length-k.1) ⟨0,by omega,by omega,rfl⟩
  (fun K=>AM ⟨s_t,s_t,s_t,s_t,s_t,s_t,trivial⟩ trivial trivial) ?_
 rintro⟨k,hk,hk2,hw⟩
 dsimp only at hk hk2 hw ⊢
 try refine A2 ?_
 refine A1 (A4 rfl rfl rfl (A6 rfl (kn rfl) (kn rfl) B7) .nil) ?_
 try refine A2 ?_
 refine AA rfl (fun h=>?_) (fun h=>?_)
 ·have hlt:k<a.length:=by have:=of_decide_eq_true h;omega
  obtain⟨x,hx⟩:∃ x,a[k]?=some x:=⟨_,List.getElem?_eq_getElem hlt⟩
  try refine A2 ?_
  refine AF ?_
  refine BA ?_
  refine AG (AL rfl (kn rfl) (kn rfl) (by omega) hx B9 sle_23 esz_23 (BI x)) ?_
  refine AG (AJ rfl (kn rfl) agg_97 sz_97) ?_
  refine AV 8 [.is (.int .i64 0),.is (.int .i64 0),.is (.int .u64 0),.is (.string ⟨#[]⟩),.is (.slice none 0 0),.is (.string ⟨#[]⟩),.is (.slice none 0 0),.is (.slice none 0 0)] rfl rfl rfl rfl zr_97 (fun w D M V=>⟨rfl,fun j x v h1 h2=>AU _ h1 h2 rfl⟩) rfl rfl rfl rfl ?_
  refine BY ?_
  refine AP rfl rfl rfl (kn rfl) rfl (kn rfl) rfl rfl sz_97 ?_
  refine AD ?_
  try refine A2 ?_
  refine A1 (A9 rfl rfl rfl rfl rfl (A9 rfl rfl rfl rfl rfl (A4 rfl rfl rfl (AT rfl (kn rfl) sle_23) (A4 rfl rfl rfl (A6 rfl (kn rfl) (kn rfl) DM) .nil)))) ?_
  try refine A2 ?_
  refine AA rfl (fun h3=>?_) (fun h3=>?_)
  ·obtain rfl:k=b.length:=by have:=of_decide_eq_true h3;omega
   have e:CA c a b=1:=by
    rw[<- hw,FK _ _ (.inr (List.drop_eq_nil_of_le (Nat.le_refl _))),List.length_drop,List.length_drop,DB _ _ _ hk hk2]
    exact IU hlt
   try refine A2 ?_
   refine A1 (AC rfl rfl rfl rfl rfl .nil) ?_
   try refine A2 ?_
   exact A8 rfl rfl (.tmp (kn rfl) (.nil)) (Imp.of_eq (by rw[e];rfl)) rfl
  have hlt2:k<b.length:=by have:=of_decide_eq_false h3;omega
  obtain⟨y,hy⟩:∃ y,b[k]?=some y:=⟨_,List.getElem?_eq_getElem hlt2⟩
  rw[B6 hx,B6 hy,CA]at hw
  try refine A2 ?_
  refine AF ?_
  refine BA ?_
  refine BA ?_
  refine AG (AL rfl (kn rfl) (kn rfl) (by omega) hy B9 sle_23 esz_23 (BI y)) ?_
  refine AG (AJ rfl (kn rfl) agg_97 sz_97) ?_
  refine AV 9 [.is (.int .i64 0),.is (.int .i64 0),.is (.int .u64 0),.is (.string ⟨#[]⟩),.is (.slice none 0 0),.is (.string ⟨#[]⟩),.is (.slice none 0 0),.is (.slice none 0 0)] rfl rfl rfl rfl zr_97 (fun w D M V=>⟨rfl,fun j x v h1 h2=>AU _ h1 h2 rfl⟩) rfl rfl rfl rfl ?_
  refine AP rfl rfl rfl (kn rfl) rfl (kn rfl) rfl rfl sz_97 ?_
  refine AD ?_
  try refine A2 ?_
  refine A1 (A9 rfl rfl rfl rfl rfl (A4 rfl rfl rfl (A7 (ds:=[_,_,_,_,_,_,_,_]) 8 rfl (kn rfl) rfl rfl agg_97 sz_97 rfl) (A4 rfl rfl rfl (A7 (ds:=[_,_,_,_,_,_,_,_]) 8 rfl (kn rfl) rfl rfl agg_97 sz_97 rfl) (A4 rfl rfl rfl (CZ rfl hfc (kn rfl) (hc x (List.mem_of_getElem? hx) y (List.mem_of_getElem? hy)) ⟨kn rfl,kn rfl,trivial⟩) (AC rfl rfl rfl rfl rfl .nil))))) ?_
  try refine A2 ?_
  refine A1 (A9 rfl rfl rfl rfl rfl (A4 rfl rfl rfl (A6 rfl (kn rfl) (kn rfl) CE) .nil)) ?_
  try refine A2 ?_
  refine AA rfl (fun h4=>?_) (fun h4=>?_)
  ·have e:CA c a b=c x y:=by rw[<- hw];exact CR (by simpa using h4)
   try refine A2 ?_
   refine A1 (A9 rfl rfl rfl rfl rfl (AC rfl rfl rfl rfl rfl .nil)) ?_
   try refine A2 ?_
   exact A8 rfl rfl (.tmp (kn rfl) (.nil)) (Imp.of_eq (by rw[e];rfl)) rfl
  rw[DS (by simpa using h4)]at hw
  try refine A2 ?_
  refine A1 (A4 rfl rfl rfl (A6 rfl (kn rfl) (kn rfl) (AS (by first | omega | (dsimp only;omega)))) (A9 rfl rfl rfl rfl rfl .nil)) ?_
  try refine A2 ?_
  refine AR ⟨k+1,by omega,by omega,hw⟩ (by dsimp only;omega) (fun K=>AM ⟨s_t,s_t,s_t,s_t,s_t,s_t,trivial⟩ trivial trivial)
 obtain rfl:k=a.length:=by have:=of_decide_eq_false h;omega
 have e:CA c a b=ncmp a.length b.length:=by
  rw[<- hw,FK _ _ (.inl (List.drop_eq_nil_of_le (Nat.le_refl _))),List.length_drop,List.length_drop,DB _ _ _ hk hk2]
 try refine A2 ?_
 refine A1 (A9 rfl rfl rfl rfl rfl (A4 rfl rfl rfl (AT rfl (kn rfl) sle_23) (A9 rfl rfl rfl rfl rfl (A4 rfl rfl rfl (AT rfl (kn rfl) sle_23) (A4 rfl rfl rfl (A6 rfl (kn rfl) (kn rfl) B7) .nil))))) ?_
 try refine A2 ?_
 refine AA rfl (fun h4=>?_) (fun h4=>?_)
 ·have e2:CA c a b = -1:=by rw[e];exact IG (by have:=of_decide_eq_true h4;omega)
  try refine A2 ?_
  refine A1 (AC rfl rfl rfl rfl rfl .nil) ?_
  try refine A2 ?_
  exact A8 rfl rfl (.tmp (kn rfl) (.nil)) (Imp.of_eq (by rw[e2];rfl)) rfl
 have e2:CA c a b=0:=by rw[e];exact IS (by have:=of_decide_eq_false h4;omega)
 try refine A2 ?_
 refine A1 (AC rfl rfl rfl rfl rfl .nil) ?_
 try refine A2 ?_
 exact A8 rfl rfl (.tmp (kn rfl) (.nil)) (Imp.of_eq (by rw[e2];rfl)) rfl
set_option maxHeartbeats 1000000 in
theorem M6(f:FuncId)(hfc:B8 Try.prog f=true)(c:Vl->Vl->Int)(a b:List (Vl))(ha:a.length<=1000000)(hb:b.length<=1000000)(hc:∀ x∈a,∀ y∈b,EF Try.prog [] f [.many (vd x),.many (vd y)] (.part (iP (c x y)))):
  EF Try.prog [] 83 [.one (.row 7 a.length (a.flatMap Vl.dats)),.one (.row 7 b.length (b.flatMap Vl.dats)),fP f] (.part (iP (CA c a b))):=by
 refine AH 39 Try.func83 rfl rfl rfl fun w D=>?_
 try refine A2 ?_
 refine A1 (AC rfl rfl rfl rfl rfl .nil) ?_
 try refine A2 ?_
 refine A1 (A9 rfl rfl rfl rfl rfl (A4 rfl rfl rfl (AT rfl (kn rfl) sle_24) (A9 rfl rfl rfl rfl rfl .nil))) ?_
 try refine A2 ?_
 refine BB (ι:={ k:Nat // k<=a.length/\k<=b.length/\CA c (a.drop k) (b.drop k)=CA c a b })
  (fun k=>[(0,.part (.one (.row 7 a.length (a.flatMap Vl.dats)))),(1,.part (.one (.row 7 b.length (b.flatMap Vl.dats)))),(2,.part (fP f)),(11,.part (.one (.row 7 a.length (a.flatMap Vl.dats)))),(12,.is (.int .i64 (a.length:Int))),(13,.is (.int .i64 (k.1:Int)))])
  (fun _=>[]) (fun _=>[]) (fun k=>a.length-k.1) ⟨0,by omega,by omega,rfl⟩
  (fun K=>AM ⟨s_t,s_t,s_t,s_t,s_t,s_t,trivial⟩ trivial trivial) ?_
 rintro⟨k,hk,hk2,hw⟩
 dsimp only at hk hk2 hw ⊢
 try refine A2 ?_
 refine A1 (A4 rfl rfl rfl (A6 rfl (kn rfl) (kn rfl) B7) .nil) ?_
 try refine A2 ?_
 refine AA rfl (fun h=>?_) (fun h=>?_)
 ·have hlt:k<a.length:=by have:=of_decide_eq_true h;omega
  obtain⟨x,hx⟩:∃ x,a[k]?=some x:=⟨_,List.getElem?_eq_getElem hlt⟩
  try refine A2 ?_
  refine AF ?_
  refine BA ?_
  refine AG (AL rfl (kn rfl) (kn rfl) (by omega) hx Vl.dats_len sle_24 esz_24 (DP x)) ?_
  refine AG (AJ rfl (kn rfl) agg_27 sz_27) ?_
  refine AV 8 [.is (.int .i64 0),.is (.int .u64 0),.is (.string ⟨#[]⟩),.is (.slice none 0 0),.is (.string ⟨#[]⟩),.is (.slice none 0 0),.is (.slice none 0 0)] rfl rfl rfl rfl zr_27 (fun w D M V=>⟨rfl,fun j x v h1 h2=>AU _ h1 h2 rfl⟩) rfl rfl rfl rfl ?_
  refine BY ?_
  refine AP rfl rfl rfl (kn rfl) rfl (kn rfl) rfl rfl sz_27 ?_
  refine AD ?_
  try refine A2 ?_
  refine A1 (A9 rfl rfl rfl rfl rfl (A9 rfl rfl rfl rfl rfl (A4 rfl rfl rfl (AT rfl (kn rfl) sle_24) (A4 rfl rfl rfl (A6 rfl (kn rfl) (kn rfl) DM) .nil)))) ?_
  try refine A2 ?_
  refine AA rfl (fun h3=>?_) (fun h3=>?_)
  ·obtain rfl:k=b.length:=by have:=of_decide_eq_true h3;omega
   have e:CA c a b=1:=by
    rw[<- hw,FK _ _ (.inr (List.drop_eq_nil_of_le (Nat.le_refl _))),List.length_drop,List.length_drop,DB _ _ _ hk hk2]
    exact IU hlt
   try refine A2 ?_
   refine A1 (AC rfl rfl rfl rfl rfl .nil) ?_
   try refine A2 ?_
   exact A8 rfl rfl (.tmp (kn rfl) (.nil)) (Imp.of_eq (by rw[e];rfl)) rfl
  have hlt2:k<b.length:=by have:=of_decide_eq_false h3;omega
  obtain⟨y,hy⟩:∃ y,b[k]?=some y:=⟨_,List.getElem?_eq_getElem hlt2⟩
  rw[B6 hx,B6 hy,CA]at hw
  try refine A2 ?_
  refine AF ?_
  refine BA ?_
  refine BA ?_
  refine AG (AL rfl (kn rfl) (kn rfl) (by omega) hy Vl.dats_len sle_24 esz_24 (DP y)) ?_
  refine AG (AJ rfl (kn rfl) agg_27 sz_27) ?_
  refine AV 9 [.is (.int .i64 0),.is (.int .u64 0),.is (.string ⟨#[]⟩),.is (.slice none 0 0),.is (.string ⟨#[]⟩),.is (.slice none 0 0),.is (.slice none 0 0)] rfl rfl rfl rfl zr_27 (fun w D M V=>⟨rfl,fun j x v h1 h2=>AU _ h1 h2 rfl⟩) rfl rfl rfl rfl ?_
  refine AP rfl rfl rfl (kn rfl) rfl (kn rfl) rfl rfl sz_27 ?_
  refine AD ?_
  try refine A2 ?_
  refine A1 (A9 rfl rfl rfl rfl rfl (A4 rfl rfl rfl (A7 (ds:=[_,_,_,_,_,_,_]) 7 rfl (kn rfl) rfl rfl agg_27 sz_27 rfl) (A4 rfl rfl rfl (A7 (ds:=[_,_,_,_,_,_,_]) 7 rfl (kn rfl) rfl rfl agg_27 sz_27 rfl) (A4 rfl rfl rfl (CZ rfl hfc (kn rfl) (hc x (List.mem_of_getElem? hx) y (List.mem_of_getElem? hy)) ⟨kn rfl,kn rfl,trivial⟩) (AC rfl rfl rfl rfl rfl .nil))))) ?_
  try refine A2 ?_
  refine A1 (A9 rfl rfl rfl rfl rfl (A4 rfl rfl rfl (A6 rfl (kn rfl) (kn rfl) CE) .nil)) ?_
  try refine A2 ?_
  refine AA rfl (fun h4=>?_) (fun h4=>?_)
  ·have e:CA c a b=c x y:=by rw[<- hw];exact CR (by simpa using h4)
   try refine A2 ?_
   refine A1 (A9 rfl rfl rfl rfl rfl (AC rfl rfl rfl rfl rfl .nil)) ?_
   try refine A2 ?_
   exact A8 rfl rfl (.tmp (kn rfl) (.nil)) (Imp.of_eq (by rw[e];rfl)) rfl
  rw[DS (by simpa using h4)]at hw
  try refine A2 ?_
  refine A1 (A4 rfl rfl rfl (A6 rfl (kn rfl) (kn rfl) (AS (by first | omega | (dsimp only;omega)))) (A9 rfl rfl rfl rfl rfl .nil)) ?_
  try refine A2 ?_
  refine AR ⟨k+1,by omega,by omega,hw⟩ (by dsimp only;omega) (fun K=>AM ⟨s_t,s_t,s_t,s_t,s_t,s_t,trivial⟩ trivial trivial)
 obtain rfl:k=a.length:=by have:=of_decide_eq_false h;omega
 have e:CA c a b=ncmp a.length b.length:=by
  rw[<- hw,FK _ _ (.inl (List.drop_eq_nil_of_le (Nat.le_refl _))),List.length_drop,List.length_drop,DB _ _ _ hk hk2]
 try refine A2 ?_
 refine A1 (A9 rfl rfl rfl rfl rfl (A4 rfl rfl rfl (AT rfl (kn rfl) sle_24) (A9 rfl rfl rfl rfl rfl (A4 rfl rfl rfl (AT rfl (kn rfl) sle_24) (A4 rfl rfl rfl (A6 rfl (kn rfl) (kn rfl) B7) .nil))))) ?_
 try refine A2 ?_
 refine AA rfl (fun h4=>?_) (fun h4=>?_)
 ·have e2:CA c a b = -1:=by rw[e];exact IG (by have:=of_decide_eq_true h4;omega)
  try refine A2 ?_
  refine A1 (AC rfl rfl rfl rfl rfl .nil) ?_
  try refine A2 ?_
  exact A8 rfl rfl (.tmp (kn rfl) (.nil)) (Imp.of_eq (by rw[e2];rfl)) rfl
 have e2:CA c a b=0:=by rw[e];exact IS (by have:=of_decide_eq_false h4;omega)
 try refine A2 ?_
 refine A1 (AC rfl rfl rfl rfl rfl .nil) ?_
 try refine A2 ?_
 exact A8 rfl rfl (.tmp (kn rfl) (.nil)) (Imp.of_eq (by rw[e2];rfl)) rfl
set_option maxHeartbeats 1000000 in
theorem LD(f:FuncId)(hfc:B8 Try.prog f=true)(c:Vl×Vl->Vl×Vl->Int)(a b:List (Vl×Vl))(ha:a.length<=1000000)(hb:b.length<=1000000)(hc:∀ x∈a,∀ y∈b,EF Try.prog [] f [.many (pd x),.many (pd y)] (.part (iP (c x y)))):
  EF Try.prog [] 84 [.one (.row 14 a.length (a.flatMap pairDats)),.one (.row 14 b.length (b.flatMap pairDats)),fP f] (.part (iP (CA c a b))):=by
 refine AH 39 Try.func84 rfl rfl rfl fun w D=>?_
 try refine A2 ?_
 refine A1 (AC rfl rfl rfl rfl rfl .nil) ?_
 try refine A2 ?_
 refine A1 (A9 rfl rfl rfl rfl rfl (A4 rfl rfl rfl (AT rfl (kn rfl) sle_25) (A9 rfl rfl rfl rfl rfl .nil))) ?_
 try refine A2 ?_
 refine BB (ι:={ k:Nat // k<=a.length/\k<=b.length/\CA c (a.drop k) (b.drop k)=CA c a b })
  (fun k=>[(0,.part (.one (.row 14 a.length (a.flatMap pairDats)))),(1,.part (.one (.row 14 b.length (b.flatMap pairDats)))),(2,.part (fP f)),(11,.part (.one (.row 14 a.length (a.flatMap pairDats)))),(12,.is (.int .i64 (a.length:Int))),(13,.is (.int .i64 (k.1:Int)))])
  (fun _=>[]) (fun _=>[]) (fun k=>a.length-k.1) ⟨0,by omega,by omega,rfl⟩
  (fun K=>AM ⟨s_t,s_t,s_t,s_t,s_t,s_t,trivial⟩ trivial trivial) ?_
 rintro⟨k,hk,hk2,hw⟩
 dsimp only at hk hk2 hw ⊢
 try refine A2 ?_
 refine A1 (A4 rfl rfl rfl (A6 rfl (kn rfl) (kn rfl) B7) .nil) ?_
 try refine A2 ?_
 refine AA rfl (fun h=>?_) (fun h=>?_)
 ·have hlt:k<a.length:=by have:=of_decide_eq_true h;omega
  obtain⟨x,hx⟩:∃ x,a[k]?=some x:=⟨_,List.getElem?_eq_getElem hlt⟩
  try refine A2 ?_
  refine AF ?_
  refine BA ?_
  refine AG (AL rfl (kn rfl) (kn rfl) (by omega) hx BO sle_25 esz_25 (BS x)) ?_
  refine AG (AJ rfl (kn rfl) agg_101 sz_101) ?_
  refine AV 8 [.is (.int .i64 0),.is (.int .u64 0),.is (.string ⟨#[]⟩),.is (.slice none 0 0),.is (.string ⟨#[]⟩),.is (.slice none 0 0),.is (.slice none 0 0),.is (.int .i64 0),.is (.int .u64 0),.is (.string ⟨#[]⟩),.is (.slice none 0 0),.is (.string ⟨#[]⟩),.is (.slice none 0 0),.is (.slice none 0 0)] rfl rfl rfl rfl zr_101 (fun w D M V=>⟨rfl,fun j x v h1 h2=>AU _ h1 h2 rfl⟩) rfl rfl rfl rfl ?_
  refine BY ?_
  refine AP rfl rfl rfl (kn rfl) rfl (kn rfl) rfl rfl sz_101 ?_
  refine AD ?_
  try refine A2 ?_
  refine A1 (A9 rfl rfl rfl rfl rfl (A9 rfl rfl rfl rfl rfl (A4 rfl rfl rfl (AT rfl (kn rfl) sle_25) (A4 rfl rfl rfl (A6 rfl (kn rfl) (kn rfl) DM) .nil)))) ?_
  try refine A2 ?_
  refine AA rfl (fun h3=>?_) (fun h3=>?_)
  ·obtain rfl:k=b.length:=by have:=of_decide_eq_true h3;omega
   have e:CA c a b=1:=by
    rw[<- hw,FK _ _ (.inr (List.drop_eq_nil_of_le (Nat.le_refl _))),List.length_drop,List.length_drop,DB _ _ _ hk hk2]
    exact IU hlt
   try refine A2 ?_
   refine A1 (AC rfl rfl rfl rfl rfl .nil) ?_
   try refine A2 ?_
   exact A8 rfl rfl (.tmp (kn rfl) (.nil)) (Imp.of_eq (by rw[e];rfl)) rfl
  have hlt2:k<b.length:=by have:=of_decide_eq_false h3;omega
  obtain⟨y,hy⟩:∃ y,b[k]?=some y:=⟨_,List.getElem?_eq_getElem hlt2⟩
  rw[B6 hx,B6 hy,CA]at hw
  try refine A2 ?_
  refine AF ?_
  refine BA ?_
  refine BA ?_
  refine AG (AL rfl (kn rfl) (kn rfl) (by omega) hy BO sle_25 esz_25 (BS y)) ?_
  refine AG (AJ rfl (kn rfl) agg_101 sz_101) ?_
  refine AV 9 [.is (.int .i64 0),.is (.int .u64 0),.is (.string ⟨#[]⟩),.is (.slice none 0 0),.is (.string ⟨#[]⟩),.is (.slice none 0 0),.is (.slice none 0 0),.is (.int .i64 0),.is (.int .u64 0),.is (.string ⟨#[]⟩),.is (.slice none 0 0),.is (.string ⟨#[]⟩),.is (.slice none 0 0),.is (.slice none 0 0)] rfl rfl rfl rfl zr_101 (fun w D M V=>⟨rfl,fun j x v h1 h2=>AU _ h1 h2 rfl⟩) rfl rfl rfl rfl ?_
  refine AP rfl rfl rfl (kn rfl) rfl (kn rfl) rfl rfl sz_101 ?_
  refine AD ?_
  try refine A2 ?_
  refine A1 (A9 rfl rfl rfl rfl rfl (A4 rfl rfl rfl (A7 (ds:=[_,_,_,_,_,_,_,_,_,_,_,_,_,_]) 14 rfl (kn rfl) rfl rfl agg_101 sz_101 rfl) (A4 rfl rfl rfl (A7 (ds:=[_,_,_,_,_,_,_,_,_,_,_,_,_,_]) 14 rfl (kn rfl) rfl rfl agg_101 sz_101 rfl) (A4 rfl rfl rfl (CZ rfl hfc (kn rfl) (hc x (List.mem_of_getElem? hx) y (List.mem_of_getElem? hy)) ⟨kn rfl,kn rfl,trivial⟩) (AC rfl rfl rfl rfl rfl .nil))))) ?_
  try refine A2 ?_
  refine A1 (A9 rfl rfl rfl rfl rfl (A4 rfl rfl rfl (A6 rfl (kn rfl) (kn rfl) CE) .nil)) ?_
  try refine A2 ?_
  refine AA rfl (fun h4=>?_) (fun h4=>?_)
  ·have e:CA c a b=c x y:=by rw[<- hw];exact CR (by simpa using h4)
   try refine A2 ?_
   refine A1 (A9 rfl rfl rfl rfl rfl (AC rfl rfl rfl rfl rfl .nil)) ?_
   try refine A2 ?_
   exact A8 rfl rfl (.tmp (kn rfl) (.nil)) (Imp.of_eq (by rw[e];rfl)) rfl
  rw[DS (by simpa using h4)]at hw
  try refine A2 ?_
  refine A1 (A4 rfl rfl rfl (A6 rfl (kn rfl) (kn rfl) (AS (by first | omega | (dsimp only;omega)))) (A9 rfl rfl rfl rfl rfl .nil)) ?_
  try refine A2 ?_
  refine AR ⟨k+1,by omega,by omega,hw⟩ (by dsimp only;omega) (fun K=>AM ⟨s_t,s_t,s_t,s_t,s_t,s_t,trivial⟩ trivial trivial)
 obtain rfl:k=a.length:=by have:=of_decide_eq_false h;omega
 have e:CA c a b=ncmp a.length b.length:=by
  rw[<- hw,FK _ _ (.inl (List.drop_eq_nil_of_le (Nat.le_refl _))),List.length_drop,List.length_drop,DB _ _ _ hk hk2]
 try refine A2 ?_
 refine A1 (A9 rfl rfl rfl rfl rfl (A4 rfl rfl rfl (AT rfl (kn rfl) sle_25) (A9 rfl rfl rfl rfl rfl (A4 rfl rfl rfl (AT rfl (kn rfl) sle_25) (A4 rfl rfl rfl (A6 rfl (kn rfl) (kn rfl) B7) .nil))))) ?_
 try refine A2 ?_
 refine AA rfl (fun h4=>?_) (fun h4=>?_)
 ·have e2:CA c a b = -1:=by rw[e];exact IG (by have:=of_decide_eq_true h4;omega)
  try refine A2 ?_
  refine A1 (AC rfl rfl rfl rfl rfl .nil) ?_
  try refine A2 ?_
  exact A8 rfl rfl (.tmp (kn rfl) (.nil)) (Imp.of_eq (by rw[e2];rfl)) rfl
 have e2:CA c a b=0:=by rw[e];exact IS (by have:=of_decide_eq_false h4;omega)
 try refine A2 ?_
 refine A1 (AC rfl rfl rfl rfl rfl .nil) ?_
 try refine A2 ?_
 exact A8 rfl rfl (.tmp (kn rfl) (.nil)) (Imp.of_eq (by rw[e2];rfl)) rfl
end Go.Proofs.Ytecfdcdkkgmkpaa
