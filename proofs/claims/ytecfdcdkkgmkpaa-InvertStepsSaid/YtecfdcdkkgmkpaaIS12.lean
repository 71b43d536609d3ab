/- Part 12. Conditions: as each theorem says. -/
import Derived.Test.YtecfdcdkkgmkpaaIS11
import Derived.Test.YtecfdcdkkgmkpaaProg
import Derived.Lib.Bytealg
import Derived.Laws.Externs
set_option maxRecDepth 100000
namespace Go.Proofs.Ytecfdcdkkgmkpaa
open Go.RowKit
theorem HC(a:Int):EF Try.prog [] 96 [iP a] (.part (tP false)):=by
 refine AF 6 Try.func96 rfl rfl rfl fun w D=>?_
 try refine A1 ?_
 refine A0 (AC rfl rfl rfl rfl rfl .nil) ?_
 try refine A1 ?_
 refine A0 (A8 rfl rfl rfl rfl rfl (A8 rfl rfl rfl rfl rfl (A4 rfl rfl rfl (A6 rfl (kn rfl) (kn rfl) D8) (AC rfl rfl rfl rfl rfl .nil)))) ?_
 try refine A1 ?_
 exact A7 rfl rfl (.tmp (kn rfl) (.nil)) (Imp.of_eq (by simp;rfl)) rfl
theorem KE(a b:Int):EF Try.prog [] 77 [iP a,iP b] (.part (iP (DY a b))):=by
 refine AF 20 Try.func77 rfl rfl rfl fun w D=>?_
 try refine A1 ?_
 refine A0 (AC rfl rfl rfl rfl rfl .nil) ?_
 try refine A1 ?_
 refine A0 (A8 rfl rfl rfl rfl rfl (A4 rfl rfl rfl (AH rfl (by kernel_rfl) (HC a) ⟨(kn rfl),trivial⟩) (AC rfl rfl rfl rfl rfl .nil))) ?_
 try refine A1 ?_
 refine A0 (A8 rfl rfl rfl rfl rfl (A4 rfl rfl rfl (AH rfl (by kernel_rfl) (HC b) ⟨(kn rfl),trivial⟩) (AC rfl rfl rfl rfl rfl .nil))) ?_
 try refine A1 ?_
 refine A0 (A8 rfl rfl rfl rfl rfl .nil) ?_
 try refine A1 ?_
 refine NB ?_
 try refine A1 ?_
 refine A0 (A8 rfl rfl rfl rfl rfl .nil) ?_
 try refine A1 ?_
 refine NB ?_
 try refine A1 ?_
 refine A0 (A8 rfl rfl rfl rfl rfl (A8 rfl rfl rfl rfl rfl (A4 rfl rfl rfl (A6 rfl (kn rfl) (kn rfl) BM) .nil))) ?_
 try refine A1 ?_
 refine AB rfl (fun h=>?_) (fun h=>?_)
 ·have e:DY a b = -1:=TM (by have:=of_decide_eq_true h;omega)
  try refine A1 ?_
  refine A0 (AC rfl rfl rfl rfl rfl .nil) ?_
  try refine A1 ?_
  exact A7 rfl rfl (.tmp (kn rfl) (.nil)) (Imp.of_eq (by rw[e];rfl)) rfl
 try refine A1 ?_
 refine A0 (A8 rfl rfl rfl rfl rfl (A8 rfl rfl rfl rfl rfl (A4 rfl rfl rfl (A6 rfl (kn rfl) (kn rfl) D9) .nil))) ?_
 try refine A1 ?_
 refine AB rfl (fun h2=>?_) (fun h2=>?_)
 ·have e:DY a b=1:=TJ (by have:=of_decide_eq_true h2;omega)
  try refine A1 ?_
  refine A0 (AC rfl rfl rfl rfl rfl .nil) ?_
  try refine A1 ?_
  exact A7 rfl rfl (.tmp (kn rfl) (.nil)) (Imp.of_eq (by rw[e];rfl)) rfl
 have e:DY a b=0:=PY (by have:=of_decide_eq_false h;have:=of_decide_eq_false h2;omega)
 try refine A1 ?_
 refine A0 (AC rfl rfl rfl rfl rfl .nil) ?_
 try refine A1 ?_
 exact A7 rfl rfl (.tmp (kn rfl) (.nil)) (Imp.of_eq (by rw[e];rfl)) rfl
theorem HS(a:Nat):EF Try.prog [] 97 [uP a] (.part (tP false)):=by
 refine AF 6 Try.func97 rfl rfl rfl fun w D=>?_
 try refine A1 ?_
 refine A0 (AC rfl rfl rfl rfl rfl .nil) ?_
 try refine A1 ?_
 refine A0 (A8 rfl rfl rfl rfl rfl (A8 rfl rfl rfl rfl rfl (A4 rfl rfl rfl (A6 rfl (kn rfl) (kn rfl) D8) (AC rfl rfl rfl rfl rfl .nil)))) ?_
 try refine A1 ?_
 exact A7 rfl rfl (.tmp (kn rfl) (.nil)) (Imp.of_eq (by simp;rfl)) rfl
theorem OZ(a b:Nat):EF Try.prog [] 78 [uP a,uP b] (.part (iP (ncmp a b))):=by
 refine AF 20 Try.func78 rfl rfl rfl fun w D=>?_
 try refine A1 ?_
 refine A0 (AC rfl rfl rfl rfl rfl .nil) ?_
 try refine A1 ?_
 refine A0 (A8 rfl rfl rfl rfl rfl (A4 rfl rfl rfl (AH rfl (by kernel_rfl) (HS a) ⟨(kn rfl),trivial⟩) (AC rfl rfl rfl rfl rfl .nil))) ?_
 try refine A1 ?_
 refine A0 (A8 rfl rfl rfl rfl rfl (A4 rfl rfl rfl (AH rfl (by kernel_rfl) (HS b) ⟨(kn rfl),trivial⟩) (AC rfl rfl rfl rfl rfl .nil))) ?_
 try refine A1 ?_
 refine A0 (A8 rfl rfl rfl rfl rfl .nil) ?_
 try refine A1 ?_
 refine NB ?_
 try refine A1 ?_
 refine A0 (A8 rfl rfl rfl rfl rfl .nil) ?_
 try refine A1 ?_
 refine NB ?_
 try refine A1 ?_
 refine A0 (A8 rfl rfl rfl rfl rfl (A8 rfl rfl rfl rfl rfl (A4 rfl rfl rfl (A6 rfl (kn rfl) (kn rfl) BM) .nil))) ?_
 try refine A1 ?_
 refine AB rfl (fun h=>?_) (fun h=>?_)
 ·have e:ncmp a b = -1:=J4 (by have:=of_decide_eq_true h;omega)
  try refine A1 ?_
  refine A0 (AC rfl rfl rfl rfl rfl .nil) ?_
  try refine A1 ?_
  exact A7 rfl rfl (.tmp (kn rfl) (.nil)) (Imp.of_eq (by rw[e];rfl)) rfl
 try refine A1 ?_
 refine A0 (A8 rfl rfl rfl rfl rfl (A8 rfl rfl rfl rfl rfl (A4 rfl rfl rfl (A6 rfl (kn rfl) (kn rfl) D9) .nil))) ?_
 try refine A1 ?_
 refine AB rfl (fun h2=>?_) (fun h2=>?_)
 ·have e:ncmp a b=1:=J3 (by have:=of_decide_eq_true h2;omega)
  try refine A1 ?_
  refine A0 (AC rfl rfl rfl rfl rfl .nil) ?_
  try refine A1 ?_
  exact A7 rfl rfl (.tmp (kn rfl) (.nil)) (Imp.of_eq (by rw[e];rfl)) rfl
 have e:ncmp a b=0:=J7 (by have:=of_decide_eq_false h;have:=of_decide_eq_false h2;omega)
 try refine A1 ?_
 refine A0 (AC rfl rfl rfl rfl rfl .nil) ?_
 try refine A1 ?_
 exact A7 rfl rfl (.tmp (kn rfl) (.nil)) (Imp.of_eq (by rw[e];rfl)) rfl
theorem K6:∀ a b:List UInt8,Lib.compareBytes a b=tcmp a b
 | [],[]=>rfl
 | [],_::_=>rfl
 | _::_,[]=>rfl
 | x::a,y::b=>by
  rw[Lib.compareBytes,tcmp,K6 a b]
  simp only[UInt8.lt_iff_toNat_lt]
theorem L3(a b:List UInt8)(w:World):(callFunc 110 #[.string (str a),.string (str b)]).run Try.prog w=.ok (.value (.int .i64 (tcmp a b))) w:=by
 rw[run_callFunc_extern (e:=Extern.BytealgCompare.compare) Try.func110 (by kernel_rfl) (by kernel_rfl) (by rfl) (by rfl),Lib.run_compareString]
 show Result.ok _ w=_
 rw[show Lib.compareBytes (str a).data.toList (str b).data.toList=tcmp a b from K6 a b]
theorem R2(a b:List UInt8):EF Try.prog [] 98 [sP a,sP b] (.part (iP (tcmp a b))):=by
 refine AF 8 Try.func98 rfl rfl rfl fun w D=>?_
 try refine A1 ?_
 refine A0 (AC rfl rfl rfl rfl rfl .nil) ?_
 try refine A1 ?_
 refine A0 (A8 rfl rfl rfl rfl rfl (A8 rfl rfl rfl rfl rfl (A4 rfl rfl rfl (UE rfl (L3 a b) (kn rfl) (kn rfl)) (AC rfl rfl rfl rfl rfl .nil)))) ?_
 try refine A1 ?_
 exact A7 rfl rfl (.tmp (kn rfl) (.nil)) (Imp.of_eq rfl) rfl
theorem LU(a b:List UInt8):EF Try.prog [] 79 [sP a,sP b] (.part (iP (tcmp a b))):=by
 refine AF 8 Try.func79 rfl rfl rfl fun w D=>?_
 try refine A1 ?_
 refine A0 (AC rfl rfl rfl rfl rfl .nil) ?_
 try refine A1 ?_
 refine A0 (A8 rfl rfl rfl rfl rfl (A8 rfl rfl rfl rfl rfl (A4 rfl rfl rfl (AH rfl (by kernel_rfl) (R2 a b) ⟨(kn rfl),⟨(kn rfl),trivial⟩⟩) (AC rfl rfl rfl rfl rfl .nil)))) ?_
 try refine A1 ?_
 exact A7 rfl rfl (.tmp (kn rfl) (.nil)) (Imp.of_eq rfl) rfl
theorem UM(x y:Int):EF Try.prog [] 80 [.one (.row 1 2 [.cell (.int .i64 x),.cell (.int .i64 y)])] (.part (iP (lex x y))):=by
 refine AF 18 Try.func80 rfl rfl rfl fun w D=>?_
 try refine A1 ?_
 refine A0 (AC rfl rfl rfl rfl rfl .nil) ?_
 try refine A1 ?_
 refine A0 (AC rfl rfl rfl rfl rfl .nil) ?_
 try refine A1 ?_
 refine A0 (A8 rfl rfl rfl rfl rfl (A4 rfl rfl rfl (AY rfl (kn rfl) sle_70) (A8 rfl rfl rfl rfl rfl .nil))) ?_
 try refine A1 ?_
 refine BN (ι:={ k:Nat // k<=2/\(1<=k->x=0)/\(2<=k->y=0) })
  (fun k=>[(3,.is (.int .i64 0)),(6,.part (.one (.row 1 [x,y].length ([x,y].flatMap fun z=>[.cell (.int .i64 z)])))),(7,.is (.int .i64 2)),(8,.is (.int .i64 (k.1:Int)))])
  (fun _=>[]) (fun _=>[]) (fun k=>2-k.1) ⟨0,by omega,by omega,by omega⟩
  (fun K=>AM ⟨s_t,s_t,s_t,s_t,trivial⟩ trivial trivial) ?_
 rintro⟨k,hk,h1,h2⟩
 dsimp only at hk h1 h2 ⊢
 try refine A1 ?_
 refine A0 (A4 rfl rfl rfl (A6 rfl (kn rfl) (kn rfl) BM) .nil) ?_
 try refine A1 ?_
 refine AB rfl (fun h=>?_) (fun h=>?_)
 ·have hlt:k<2:=by have:=of_decide_eq_true h;omega
  obtain⟨z,hz⟩:∃ z,[x,y][k]?=some z:=⟨_,List.getElem?_eq_getElem hlt⟩
  try refine A1 ?_
  refine A0 (A4 rfl rfl rfl (AX rfl (kn rfl) (kn rfl) (by omega) hz (fun _=>rfl) sle_70 esz_70 rfl) (A4 rfl rfl rfl (AI rfl (kn rfl) one_3) (AC rfl rfl rfl rfl rfl .nil))) ?_
  try refine A1 ?_
  refine A0 (A8 rfl rfl rfl rfl rfl (A8 rfl rfl rfl rfl rfl (A4 rfl rfl rfl (A6 rfl (kn rfl) (kn rfl) D8) .nil))) ?_
  try refine A1 ?_
  refine AB rfl (fun h3=>?_) (fun h3=>?_)
  ·have hne:z≠0:=by simpa using h3
   have e:lex x y=z:=by
    rcases(show k=0\/k=1 by omega)with rfl | rfl
    ·obtain rfl:x=z:=by simpa using hz
     exact H1 hne
    ·obtain rfl:y=z:=by simpa using hz
     exact FY (h1 (by omega))
   try refine A1 ?_
   refine A0 (A8 rfl rfl rfl rfl rfl (AC rfl rfl rfl rfl rfl .nil)) ?_
   try refine A1 ?_
   exact A7 rfl rfl (.tmp (kn rfl) (.nil)) (Imp.of_eq (by rw[e];rfl)) rfl
  have he:z=0:=by simpa using h3
  try refine A1 ?_
  refine A0 (A4 rfl rfl rfl (A6 rfl (kn rfl) (kn rfl) (AW (by first | omega | (dsimp only;omega)))) (A8 rfl rfl rfl rfl rfl .nil)) ?_
  try refine A1 ?_
  refine AV ⟨k+1,by omega,fun _=>?_,fun _=>?_⟩ (by dsimp only;omega) (fun K=>AM ⟨s_t,s_t,s_t,s_t,trivial⟩ trivial trivial)
  ·rcases(show k=0\/k=1 by omega)with rfl | rfl
   ·obtain rfl:x=z:=by simpa using hz
    exact he
   ·exact h1 (by omega)
  ·obtain rfl:k=1:=by omega
   obtain rfl:y=z:=by simpa using hz
   exact he
 obtain rfl:k=2:=by have:=of_decide_eq_false h;omega
 have e:lex x y=0:=by rw[FY (h1 (by omega)),h2 (by omega)]
 try refine A1 ?_
 refine A0 (A8 rfl rfl rfl rfl rfl (AC rfl rfl rfl rfl rfl .nil)) ?_
 try refine A1 ?_
 exact A7 rfl rfl (.tmp (kn rfl) (.nil)) (Imp.of_eq (by rw[e];rfl)) rfl
abbrev fP(f:FuncId):Part:=.one (.cell (.func (.func f) #[] #[]))
def BR{α:Type}(c:α->α->Int):List α->List α->Int
 | [],[]=>0
 | [],_::_ => -1
 | _::_,[]=>1
 | x::a,y::b=>lex (c x y) (BR c a b)
theorem EX{α:Type}{c:α->α->Int}:∀ (a b:List α),(a=[]\/b=[])->BR c a b=ncmp a.length b.length
 | [],[],_=>rfl
 | [],_::_,_=>by simp[BR,ncmp]
 | _::_,[],_=>by simp[BR,ncmp]
 | _::_,_::_,h=>by simp at h
theorem LB(x y z:Int):lex x (lex y z)=lex (lex x y) z:=by
 unfold lex
 by_cases h:x=0
 ·simp[h]
 ·simp[h]
def N1(f g:Int×Vl):Int:=lex (DY f.1 g.1) (vcmp f.2 g.2)
def O6(p q:Vl×Vl):Int:=lex (vcmp p.1 q.1) (vcmp p.2 q.2)
theorem IS:∀ a b:List (Int×Vl),BR N1 a b=fcmp a b
 | [],[]=>by simp[BR,fcmp]
 | [],_::_=>by simp[BR,fcmp]
 | _::_,[]=>by simp[BR,fcmp]
 | x::a,y::b=>by rw[BR,IS a b,IB,LB];rfl
theorem LT:∀ a b:List Vl,BR vcmp a b=lcmp a b
 | [],[]=>by simp[BR,lcmp]
 | [],_::_=>by simp[BR,lcmp]
 | _::_,[]=>by simp[BR,lcmp]
 | x::a,y::b=>by rw[BR,LT a b,I9]
theorem JX:∀ a b:List (Vl×Vl),BR O6 a b=pcmp a b
 | [],[]=>by simp[BR,pcmp]
 | [],_::_=>by simp[BR,pcmp]
 | _::_,[]=>by simp[BR,pcmp]
 | x::a,y::b=>by rw[BR,JX a b,I4,LB];rfl
abbrev fd(f:Int×Vl):List Dat:=.cell (.int .i64 f.1)::vd f.2
abbrev pd(p:Vl×Vl):List Dat:=vd p.1++vd p.2
set_option maxHeartbeats 1000000 in
theorem IZ(f:FuncId)(hfc:AZ Try.prog f=true)(c:Int×Vl->Int×Vl->Int)(a b:List (Int×Vl))(ha:a.length<=1000000)(hb:b.length<=1000000)(hc:∀ x∈a,∀ y∈b,EF Try.prog [] f [.many (fd x),.many (fd y)] (.part (iP (c x y)))):
  EF Try.prog [] 81 [.one (.row 8 a.length (a.flatMap fieldDats)),.one (.row 8 b.length (b.flatMap fieldDats)),fP f] (.part (iP (BR c a b))):=by
 refine AF 39 Try.func81 rfl rfl rfl fun w D=>?_
 try refine A1 ?_
 refine A0 (AC rfl rfl rfl rfl rfl .nil) ?_
 try refine A1 ?_
 refine A0 (A8 rfl rfl rfl rfl rfl (A4 rfl rfl rfl (AY rfl (kn rfl) sle_23) (A8 rfl rfl rfl rfl rfl .nil))) ?_
 try refine A1 ?_
 refine BN (ι:={ k:Nat // k<=a.length/\k<=b.length/\BR c (a.drop k) (b.drop k)=BR c a b })
  (fun k=>[(0,.part (.one (.row 8 a.length (a.flatMap fieldDats)))),(1,.part (.one (.row 8 b.length (b.flatMap fieldDats)))),(2,.part (fP f)),(11,.part (.one (.row 8 a.length (a.flatMap fieldDats)))),(12,.is (.int .i64 (a.length:Int))),(13,.is (.int .i64 (k.1:Int)))])
  (fun _=>[]) (fun _=>[]) (fun k=>a.length-k.1) ⟨0,by omega,by omega,rfl⟩
  (fun K=>AM ⟨s_t,s_t,s_t,s_t,s_t,s_t,trivial⟩ trivial trivial) ?_
 rintro⟨k,hk,hk2,hw⟩
 dsimp only at hk hk2 hw ⊢
 try refine A1 ?_
 refine A0 (A4 rfl rfl rfl (A6 rfl (kn rfl) (kn rfl) BM) .nil) ?_
 try refine A1 ?_
 refine AB rfl (fun h=>?_) (fun h=>?_)
 ·have hlt:k<a.length:=by have:=of_decide_eq_true h;omega
  obtain⟨x,hx⟩:∃ x,a[k]?=some x:=⟨_,List.getElem?_eq_getElem hlt⟩
  try refine A1 ?_
  refine AG ?_
  refine BE ?_
  refine AK (AX rfl (kn rfl) (kn rfl) (by omega) hx BY sle_23 esz_23 (CM x)) ?_
  refine AK (AO rfl (kn rfl) agg_97 sz_97) ?_
  refine BB 8 [.is (.int .i64 0),.is (.int .i64 0),.is (.int .u64 0),.is (.string ⟨#[]⟩),.is (.slice none 0 0),.is (.string ⟨#[]⟩),.is (.slice none 0 0),.is (.slice none 0 0)] rfl rfl rfl rfl zr_97 (fun w D M V=>⟨rfl,fun j x v h1 h2=>BA _ h1 h2 rfl⟩) rfl rfl rfl rfl ?_
  refine BW ?_
  refine B2 rfl rfl rfl (kn rfl) rfl (kn rfl) rfl rfl sz_97 ?_
  refine AD ?_
  try refine A1 ?_
  refine A0 (A8 rfl rfl rfl rfl rfl (A8 rfl rfl rfl rfl rfl (A4 rfl rfl rfl (AY rfl (kn rfl) sle_23) (A4 rfl rfl rfl (A6 rfl (kn rfl) (kn rfl) CW) .nil)))) ?_
  try refine A1 ?_
  refine AB rfl (fun h3=>?_) (fun h3=>?_)
  ·obtain rfl:k=b.length:=by have:=of_decide_eq_true h3;omega
   have e:BR c a b=1:=by
    rw[<- hw,EX _ _ (.inr (List.drop_eq_nil_of_le (Nat.le_refl _))),List.length_drop,List.length_drop,E2 _ _ _ hk hk2]
    exact J3 hlt
   try refine A1 ?_
   refine A0 (AC rfl rfl rfl rfl rfl .nil) ?_
   try refine A1 ?_
   exact A7 rfl rfl (.tmp (kn rfl) (.nil)) (Imp.of_eq (by rw[e];rfl)) rfl
  have hlt2:k<b.length:=by have:=of_decide_eq_false h3;omega
  obtain⟨y,hy⟩:∃ y,b[k]?=some y:=⟨_,List.getElem?_eq_getElem hlt2⟩
  rw[BQ hx,BQ hy,BR]at hw
  try refine A1 ?_
  refine AG ?_
  refine BE ?_
  refine BE ?_
  refine AK (AX rfl (kn rfl) (kn rfl) (by omega) hy BY sle_23 esz_23 (CM y)) ?_
  refine AK (AO rfl (kn rfl) agg_97 sz_97) ?_
  refine BB 9 [.is (.int .i64 0),.is (.int .i64 0),.is (.int .u64 0),.is (.string ⟨#[]⟩),.is (.slice none 0 0),.is (.string ⟨#[]⟩),.is (.slice none 0 0),.is (.slice none 0 0)] rfl rfl rfl rfl zr_97 (fun w D M V=>⟨rfl,fun j x v h1 h2=>BA _ h1 h2 rfl⟩) rfl rfl rfl rfl ?_
  refine B2 rfl rfl rfl (kn rfl) rfl (kn rfl) rfl rfl sz_97 ?_
  refine AD ?_
  try refine A1 ?_
  refine A0 (A8 rfl rfl rfl rfl rfl (A4 rfl rfl rfl (A9 (ds:=[_,_,_,_,_,_,_,_]) 8 rfl (kn rfl) rfl rfl agg_97 sz_97 rfl) (A4 rfl rfl rfl (A9 (ds:=[_,_,_,_,_,_,_,_]) 8 rfl (kn rfl) rfl rfl agg_97 sz_97 rfl) (A4 rfl rfl rfl (CH rfl hfc (kn rfl) (hc x (List.mem_of_getElem? hx) y (List.mem_of_getElem? hy)) ⟨kn rfl,kn rfl,trivial⟩) (AC rfl rfl rfl rfl rfl .nil))))) ?_
  try refine A1 ?_
  refine A0 (A8 rfl rfl rfl rfl rfl (A4 rfl rfl rfl (A6 rfl (kn rfl) (kn rfl) D8) .nil)) ?_
  try refine A1 ?_
  refine AB rfl (fun h4=>?_) (fun h4=>?_)
  ·have e:BR c a b=c x y:=by rw[<- hw];exact H1 (by simpa using h4)
   try refine A1 ?_
   refine A0 (A8 rfl rfl rfl rfl rfl (AC rfl rfl rfl rfl rfl .nil)) ?_
   try refine A1 ?_
   exact A7 rfl rfl (.tmp (kn rfl) (.nil)) (Imp.of_eq (by rw[e];rfl)) rfl
  rw[FY (by simpa using h4)]at hw
  try refine A1 ?_
  refine A0 (A4 rfl rfl rfl (A6 rfl (kn rfl) (kn rfl) (AW (by first | omega | (dsimp only;omega)))) (A8 rfl rfl rfl rfl rfl .nil)) ?_
  try refine A1 ?_
  refine AV ⟨k+1,by omega,by omega,hw⟩ (by dsimp only;omega) (fun K=>AM ⟨s_t,s_t,s_t,s_t,s_t,s_t,trivial⟩ trivial trivial)
 obtain rfl:k=a.length:=by have:=of_decide_eq_false h;omega
 have e:BR c a b=ncmp a.length b.length:=by
  rw[<- hw,EX _ _ (.inl (List.drop_eq_nil_of_le (Nat.le_refl _))),List.length_drop,List.length_drop,E2 _ _ _ hk hk2]
 try refine A1 ?_
 refine A0 (A8 rfl rfl rfl rfl rfl (A4 rfl rfl rfl (AY rfl (kn rfl) sle_23) (A8 rfl rfl rfl rfl rfl (A4 rfl rfl rfl (AY rfl (kn rfl) sle_23) (A4 rfl rfl rfl (A6 rfl (kn rfl) (kn rfl) BM) .nil))))) ?_
 try refine A1 ?_
 refine AB rfl (fun h4=>?_) (fun h4=>?_)
 ·have e2:BR c a b = -1:=by rw[e];exact J4 (by have:=of_decide_eq_true h4;omega)
  try refine A1 ?_
  refine A0 (AC rfl rfl rfl rfl rfl .nil) ?_
  try refine A1 ?_
  exact A7 rfl rfl (.tmp (kn rfl) (.nil)) (Imp.of_eq (by rw[e2];rfl)) rfl
 have e2:BR c a b=0:=by rw[e];exact J7 (by have:=of_decide_eq_false h4;omega)
 try refine A1 ?_
 refine A0 (AC rfl rfl rfl rfl rfl .nil) ?_
 try refine A1 ?_
 exact A7 rfl rfl (.tmp (kn rfl) (.nil)) (Imp.of_eq (by rw[e2];rfl)) rfl
set_option maxHeartbeats 1000000 in
theorem L4(f:FuncId)(hfc:AZ Try.prog f=true)(c:Vl->Vl->Int)(a b:List (Vl))(ha:a.length<=1000000)(hb:b.length<=1000000)(hc:∀ x∈a,∀ y∈b,EF Try.prog [] f [.many (vd x),.many (vd y)] (.part (iP (c x y)))):
  EF Try.prog [] 83 [.one (.row 7 a.length (a.flatMap Vl.dats)),.one (.row 7 b.length (b.flatMap Vl.dats)),fP f] (.part (iP (BR c a b))):=by
 refine AF 39 Try.func83 rfl rfl rfl fun w D=>?_
 try refine A1 ?_
 refine A0 (AC rfl rfl rfl rfl rfl .nil) ?_
 try refine A1 ?_
 refine A0 (A8 rfl rfl rfl rfl rfl (A4 rfl rfl rfl (AY rfl (kn rfl) sle_24) (A8 rfl rfl rfl rfl rfl .nil))) ?_
 try refine A1 ?_
 refine BN (ι:={ k:Nat // k<=a.length/\k<=b.length/\BR c (a.drop k) (b.drop k)=BR c a b })
  (fun k=>[(0,.part (.one (.row 7 a.length (a.flatMap Vl.dats)))),(1,.part (.one (.row 7 b.length (b.flatMap Vl.dats)))),(2,.part (fP f)),(11,.part (.one (.row 7 a.length (a.flatMap Vl.dats)))),(12,.is (.int .i64 (a.length:Int))),(13,.is (.int .i64 (k.1:Int)))])
  (fun _=>[]) (fun _=>[]) (fun k=>a.length-k.1) ⟨0,by omega,by omega,rfl⟩
  (fun K=>AM ⟨s_t,s_t,s_t,s_t,s_t,s_t,trivial⟩ trivial trivial) ?_
 rintro⟨k,hk,hk2,hw⟩
 dsimp only at hk hk2 hw ⊢
 try refine A1 ?_
 refine A0 (A4 rfl rfl rfl (A6 rfl (kn rfl) (kn rfl) BM) .nil) ?_
 try refine A1 ?_
 refine AB rfl (fun h=>?_) (fun h=>?_)
 ·have hlt:k<a.length:=by have:=of_decide_eq_true h;omega
  obtain⟨x,hx⟩:∃ x,a[k]?=some x:=⟨_,List.getElem?_eq_getElem hlt⟩
  try refine A1 ?_
  refine AG ?_
  refine BE ?_
  refine AK (AX rfl (kn rfl) (kn rfl) (by omega) hx Vl.dats_len sle_24 esz_24 (D7 x)) ?_
  refine AK (AO rfl (kn rfl) agg_27 sz_27) ?_
  refine BB 8 [.is (.int .i64 0),.is (.int .u64 0),.is (.string ⟨#[]⟩),.is (.slice none 0 0),.is (.string ⟨#[]⟩),.is (.slice none 0 0),.is (.slice none 0 0)] rfl rfl rfl rfl zr_27 (fun w D M V=>⟨rfl,fun j x v h1 h2=>BA _ h1 h2 rfl⟩) rfl rfl rfl rfl ?_
  refine BW ?_
  refine B2 rfl rfl rfl (kn rfl) rfl (kn rfl) rfl rfl sz_27 ?_
  refine AD ?_
  try refine A1 ?_
  refine A0 (A8 rfl rfl rfl rfl rfl (A8 rfl rfl rfl rfl rfl (A4 rfl rfl rfl (AY rfl (kn rfl) sle_24) (A4 rfl rfl rfl (A6 rfl (kn rfl) (kn rfl) CW) .nil)))) ?_
  try refine A1 ?_
  refine AB rfl (fun h3=>?_) (fun h3=>?_)
  ·obtain rfl:k=b.length:=by have:=of_decide_eq_true h3;omega
   have e:BR c a b=1:=by
    rw[<- hw,EX _ _ (.inr (List.drop_eq_nil_of_le (Nat.le_refl _))),List.length_drop,List.length_drop,E2 _ _ _ hk hk2]
    exact J3 hlt
   try refine A1 ?_
   refine A0 (AC rfl rfl rfl rfl rfl .nil) ?_
   try refine A1 ?_
   exact A7 rfl rfl (.tmp (kn rfl) (.nil)) (Imp.of_eq (by rw[e];rfl)) rfl
  have hlt2:k<b.length:=by have:=of_decide_eq_false h3;omega
  obtain⟨y,hy⟩:∃ y,b[k]?=some y:=⟨_,List.getElem?_eq_getElem hlt2⟩
  rw[BQ hx,BQ hy,BR]at hw
  try refine A1 ?_
  refine AG ?_
  refine BE ?_
  refine BE ?_
  refine AK (AX rfl (kn rfl) (kn rfl) (by omega) hy Vl.dats_len sle_24 esz_24 (D7 y)) ?_
  refine AK (AO rfl (kn rfl) agg_27 sz_27) ?_
  refine BB 9 [.is (.int .i64 0),.is (.int .u64 0),.is (.string ⟨#[]⟩),.is (.slice none 0 0),.is (.string ⟨#[]⟩),.is (.slice none 0 0),.is (.slice none 0 0)] rfl rfl rfl rfl zr_27 (fun w D M V=>⟨rfl,fun j x v h1 h2=>BA _ h1 h2 rfl⟩) rfl rfl rfl rfl ?_
  refine B2 rfl rfl rfl (kn rfl) rfl (kn rfl) rfl rfl sz_27 ?_
  refine AD ?_
  try refine A1 ?_
  refine A0 (A8 rfl rfl rfl rfl rfl (A4 rfl rfl rfl (A9 (ds:=[_,_,_,_,_,_,_]) 7 rfl (kn rfl) rfl rfl agg_27 sz_27 rfl) (A4 rfl rfl rfl (A9 (ds:=[_,_,_,_,_,_,_]) 7 rfl (kn rfl) rfl rfl agg_27 sz_27 rfl) (A4 rfl rfl rfl (CH rfl hfc (kn rfl) (hc x (List.mem_of_getElem? hx) y (List.mem_of_getElem? hy)) ⟨kn rfl,kn rfl,trivial⟩) (AC rfl rfl rfl rfl rfl .nil))))) ?_
  try refine A1 ?_
  refine A0 (A8 rfl rfl rfl rfl rfl (A4 rfl rfl rfl (A6 rfl (kn rfl) (kn rfl) D8) .nil)) ?_
  try refine A1 ?_
  refine AB rfl (fun h4=>?_) (fun h4=>?_)
  ·have e:BR c a b=c x y:=by rw[<- hw];exact H1 (by simpa using h4)
   try refine A1 ?_
   refine A0 (A8 rfl rfl rfl rfl rfl (AC rfl rfl rfl rfl rfl .nil)) ?_
   try refine A1 ?_
   exact A7 rfl rfl (.tmp (kn rfl) (.nil)) (Imp.of_eq (by rw[e];rfl)) rfl
  rw[FY (by simpa using h4)]at hw
  try refine A1 ?_
  refine A0 (A4 rfl rfl rfl (A6 rfl (kn rfl) (kn rfl) (AW (by first | omega | (dsimp only;omega)))) (A8 rfl rfl rfl rfl rfl .nil)) ?_
  try refine A1 ?_
  refine AV ⟨k+1,by omega,by omega,hw⟩ (by dsimp only;omega) (fun K=>AM ⟨s_t,s_t,s_t,s_t,s_t,s_t,trivial⟩ trivial trivial)
 obtain rfl:k=a.length:=by have:=of_decide_eq_false h;omega
 have e:BR c a b=ncmp a.length b.length:=by
  rw[<- hw,EX _ _ (.inl (List.drop_eq_nil_of_le (Nat.le_refl _))),List.length_drop,List.length_drop,E2 _ _ _ hk hk2]
 try refine A1 ?_
 refine A0 (A8 rfl rfl rfl rfl rfl (A4 rfl rfl rfl (AY rfl (kn rfl) sle_24) (A8 rfl rfl rfl rfl rfl (A4 rfl rfl rfl (AY rfl (kn rfl) sle_24) (A4 rfl rfl rfl (A6 rfl (kn rfl) (kn rfl) BM) .nil))))) ?_
 try refine A1 ?_
 refine AB rfl (fun h4=>?_) (fun h4=>?_)
 ·have e2:BR c a b = -1:=by rw[e];exact J4 (by have:=of_decide_eq_true h4;omega)
  try refine A1 ?_
  refine A0 (AC rfl rfl rfl rfl rfl .nil) ?_
  try refine A1 ?_
  exact A7 rfl rfl (.tmp (kn rfl) (.nil)) (Imp.of_eq (by rw[e2];rfl)) rfl
 have e2:BR c a b=0:=by rw[e];exact J7 (by have:=of_decide_eq_false h4;omega)
 try refine A1 ?_
 refine A0 (AC rfl rfl rfl rfl rfl .nil) ?_
 try refine A1 ?_
 exact A7 rfl rfl (.tmp (kn rfl) (.nil)) (Imp.of_eq (by rw[e2];rfl)) rfl
set_option maxHeartbeats 1000000 in
theorem K2(f:FuncId)(hfc:AZ Try.prog f=true)(c:Vl×Vl->Vl×Vl->Int)(a b:List (Vl×Vl))(ha:a.length<=1000000)(hb:b.length<=1000000)(hc:∀ x∈a,∀ y∈b,EF Try.prog [] f [.many (pd x),.many (pd y)] (.part (iP (c x y)))):
  EF Try.prog [] 84 [.one (.row 14 a.length (a.flatMap pairDats)),.one (.row 14 b.length (b.flatMap pairDats)),fP f] (.part (iP (BR c a b))):=by
 refine AF 39 Try.func84 rfl rfl rfl fun w D=>?_
 try refine A1 ?_
 refine A0 (AC rfl rfl rfl rfl rfl .nil) ?_
 try refine A1 ?_
 refine A0 (A8 rfl rfl rfl rfl rfl (A4 rfl rfl rfl (AY rfl (kn rfl) sle_25) (A8 rfl rfl rfl rfl rfl .nil))) ?_
 try refine A1 ?_
 refine BN (ι:={ k:Nat // k<=a.length/\k<=b.length/\BR c (a.drop k) (b.drop k)=BR c a b })
  (fun k=>[(0,.part (.one (.row 14 a.length (a.flatMap pairDats)))),(1,.part (.one (.row 14 b.length (b.flatMap pairDats)))),(2,.part (fP f)),(11,.part (.one (.row 14 a.length (a.flatMap pairDats)))),(12,.is (.int .i64 (a.length:Int))),(13,.is (.int .i64 (k.1:Int)))])
  (fun _=>[]) (fun _=>[]) (fun k=>a.length-k.1) ⟨0,by omega,by omega,rfl⟩
  (fun K=>AM ⟨s_t,s_t,s_t,s_t,s_t,s_t,trivial⟩ trivial trivial) ?_
 rintro⟨k,hk,hk2,hw⟩
 dsimp only at hk hk2 hw ⊢
 try refine A1 ?_
 refine A0 (A4 rfl rfl rfl (A6 rfl (kn rfl) (kn rfl) BM) .nil) ?_
 try refine A1 ?_
 refine AB rfl (fun h=>?_) (fun h=>?_)
 ·have hlt:k<a.length:=by have:=of_decide_eq_true h;omega
  obtain⟨x,hx⟩:∃ x,a[k]?=some x:=⟨_,List.getElem?_eq_getElem hlt⟩
  try refine A1 ?_
  refine AG ?_
  refine BE ?_
  refine AK (AX rfl (kn rfl) (kn rfl) (by omega) hx BT sle_25 esz_25 (CK x)) ?_
  refine AK (AO rfl (kn rfl) agg_101 sz_101) ?_
  refine BB 8 [.is (.int .i64 0),.is (.int .u64 0),.is (.string ⟨#[]⟩),.is (.slice none 0 0),.is (.string ⟨#[]⟩),.is (.slice none 0 0),.is (.slice none 0 0),.is (.int .i64 0),.is (.int .u64 0),.is (.string ⟨#[]⟩),.is (.slice none 0 0),.is (.string ⟨#[]⟩),.is (.slice none 0 0),.is (.slice none 0 0)] rfl rfl rfl rfl zr_101 (fun w D M V=>⟨rfl,fun j x v h1 h2=>BA _ h1 h2 rfl⟩) rfl rfl rfl rfl ?_
  refine BW ?_
  refine B2 rfl rfl rfl (kn rfl) rfl (kn rfl) rfl rfl sz_101 ?_
  refine AD ?_
  try refine A1 ?_
  refine A0 (A8 rfl rfl rfl rfl rfl (A8 rfl rfl rfl rfl rfl (A4 rfl rfl rfl (AY rfl (kn rfl) sle_25) (A4 rfl rfl rfl (A6 rfl (kn rfl) (kn rfl) CW) .nil)))) ?_
  try refine A1 ?_
  refine AB rfl (fun h3=>?_) (fun h3=>?_)
  ·obtain rfl:k=b.length:=by have:=of_decide_eq_true h3;omega
   have e:BR c a b=1:=by
    rw[<- hw,EX _ _ (.inr (List.drop_eq_nil_of_le (Nat.le_refl _))),List.length_drop,List.length_drop,E2 _ _ _ hk hk2]
    exact J3 hlt
   try refine A1 ?_
   refine A0 (AC rfl rfl rfl rfl rfl .nil) ?_
   try refine A1 ?_
   exact A7 rfl rfl (.tmp (kn rfl) (.nil)) (Imp.of_eq (by rw[e];rfl)) rfl
  have hlt2:k<b.length:=by have:=of_decide_eq_false h3;omega
  obtain⟨y,hy⟩:∃ y,b[k]?=some y:=⟨_,List.getElem?_eq_getElem hlt2⟩
  rw[BQ hx,BQ hy,BR]at hw
  try refine A1 ?_
  refine AG ?_
  refine BE ?_
  refine BE ?_
  refine AK (AX rfl (kn rfl) (kn rfl) (by omega) hy BT sle_25 esz_25 (CK y)) ?_
  refine AK (AO rfl (kn rfl) agg_101 sz_101) ?_
  refine BB 9 [.is (.int .i64 0),.is (.int .u64 0),.is (.string ⟨#[]⟩),.is (.slice none 0 0),.is (.string ⟨#[]⟩),.is (.slice none 0 0),.is (.slice none 0 0),.is (.int .i64 0),.is (.int .u64 0),.is (.string ⟨#[]⟩),.is (.slice none 0 0),.is (.string ⟨#[]⟩),.is (.slice none 0 0),.is (.slice none 0 0)] rfl rfl rfl rfl zr_101 (fun w D M V=>⟨rfl,fun j x v h1 h2=>BA _ h1 h2 rfl⟩) rfl rfl rfl rfl ?_
  refine B2 rfl rfl rfl (kn rfl) rfl (kn rfl) rfl rfl sz_101 ?_
  refine AD ?_
  try refine A1 ?_
  refine A0 (A8 rfl rfl rfl rfl rfl (A4 rfl rfl rfl (A9 (ds:=[_,_,_,_,_,_,_,_,_,_,_,_,_,_]) 14 rfl (kn rfl) rfl rfl agg_101 sz_101 rfl) (A4 rfl rfl rfl (A9 (ds:=[_,_,_,_,_,_,_,_,_,_,_,_,_,_]) 14 rfl (kn rfl) rfl rfl agg_101 sz_101 rfl) (A4 rfl rfl rfl (CH rfl hfc (kn rfl) (hc x (List.mem_of_getElem? hx) y (List.mem_of_getElem? hy)) ⟨kn rfl,kn rfl,trivial⟩) (AC rfl rfl rfl rfl rfl .nil))))) ?_
  try refine A1 ?_
  refine A0 (A8 rfl rfl rfl rfl rfl (A4 rfl rfl rfl (A6 rfl (kn rfl) (kn rfl) D8) .nil)) ?_
  try refine A1 ?_
  refine AB rfl (fun h4=>?_) (fun h4=>?_)
  ·have e:BR c a b=c x y:=by rw[<- hw];exact H1 (by simpa using h4)
   try refine A1 ?_
   refine A0 (A8 rfl rfl rfl rfl rfl (AC rfl rfl rfl rfl rfl .nil)) ?_
   try refine A1 ?_
   exact A7 rfl rfl (.tmp (kn rfl) (.nil)) (Imp.of_eq (by rw[e];rfl)) rfl
  rw[FY (by simpa using h4)]at hw
  try refine A1 ?_
  refine A0 (A4 rfl rfl rfl (A6 rfl (kn rfl) (kn rfl) (AW (by first | omega | (dsimp only;omega)))) (A8 rfl rfl rfl rfl rfl .nil)) ?_
  try refine A1 ?_
  refine AV ⟨k+1,by omega,by omega,hw⟩ (by dsimp only;omega) (fun K=>AM ⟨s_t,s_t,s_t,s_t,s_t,s_t,trivial⟩ trivial trivial)
 obtain rfl:k=a.length:=by have:=of_decide_eq_false h;omega
 have e:BR c a b=ncmp a.length b.length:=by
  rw[<- hw,EX _ _ (.inl (List.drop_eq_nil_of_le (Nat.le_refl _))),List.length_drop,List.length_drop,E2 _ _ _ hk hk2]
 try refine A1 ?_
 refine A0 (A8 rfl rfl rfl rfl rfl (A4 rfl rfl rfl (AY rfl (kn rfl) sle_25) (A8 rfl rfl rfl rfl rfl (A4 rfl rfl rfl (AY rfl (kn rfl) sle_25) (A4 rfl rfl rfl (A6 rfl (kn rfl) (kn rfl) BM) .nil))))) ?_
 try refine A1 ?_
 refine AB rfl (fun h4=>?_) (fun h4=>?_)
 ·have e2:BR c a b = -1:=by rw[e];exact J4 (by have:=of_decide_eq_true h4;omega)
  try refine A1 ?_
  refine A0 (AC rfl rfl rfl rfl rfl .nil) ?_
  try refine A1 ?_
  exact A7 rfl rfl (.tmp (kn rfl) (.nil)) (Imp.of_eq (by rw[e2];rfl)) rfl
 have e2:BR c a b=0:=by rw[e];exact J7 (by have:=of_decide_eq_false h4;omega)
 try refine A1 ?_
 refine A0 (AC rfl rfl rfl rfl rfl .nil) ?_
 try refine A1 ?_
 exact A7 rfl rfl (.tmp (kn rfl) (.nil)) (Imp.of_eq (by rw[e2];rfl)) rfl
end Go.Proofs.Ytecfdcdkkgmkpaa
