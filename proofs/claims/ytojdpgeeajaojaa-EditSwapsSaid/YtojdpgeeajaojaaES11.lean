/- Part 11. Conditions: as each theorem says. -/
import Derived.Test.YtojdpgeeajaojaaES10
import Derived.Test.YtojdpgeeajaojaaProg
import Derived.Lib.Bytealg
import Derived.Laws.Externs
set_option maxRecDepth 100000
namespace Go.Proofs.Ytojdpgeeajaojaa
open Go.RowKit
theorem FA(a:Int):EF Try.prog [] 68 [iP a] (.part (tP false)):=by
 refine AF 6 Try.func68 rfl rfl rfl fun w D=>?_
 try refine A2 ?_
 refine A0 (AD rfl rfl rfl rfl rfl .nil) ?_
 try refine A2 ?_
 refine A0 (A8 rfl rfl rfl rfl rfl (A8 rfl rfl rfl rfl rfl (A3 rfl rfl rfl (A9 rfl (kn rfl) (kn rfl) C8) (AD rfl rfl rfl rfl rfl .nil)))) ?_
 try refine A2 ?_
 exact A7 rfl rfl (.tmp (kn rfl) (.nil)) (Imp.of_eq (by simp;rfl)) rfl
theorem HY(a b:Int):EF Try.prog [] 26 [iP a,iP b] (.part (iP (CQ a b))):=by
 refine AF 20 Try.func26 rfl rfl rfl fun w D=>?_
 try refine A2 ?_
 refine A0 (AD rfl rfl rfl rfl rfl .nil) ?_
 try refine A2 ?_
 refine A0 (A8 rfl rfl rfl rfl rfl (A3 rfl rfl rfl (AG rfl (by kernel_rfl) (FA a) ⟨(kn rfl),trivial⟩) (AD rfl rfl rfl rfl rfl .nil))) ?_
 try refine A2 ?_
 refine A0 (A8 rfl rfl rfl rfl rfl (A3 rfl rfl rfl (AG rfl (by kernel_rfl) (FA b) ⟨(kn rfl),trivial⟩) (AD rfl rfl rfl rfl rfl .nil))) ?_
 try refine A2 ?_
 refine A0 (A8 rfl rfl rfl rfl rfl .nil) ?_
 try refine A2 ?_
 refine N4 ?_
 try refine A2 ?_
 refine A0 (A8 rfl rfl rfl rfl rfl .nil) ?_
 try refine A2 ?_
 refine N4 ?_
 try refine A2 ?_
 refine A0 (A8 rfl rfl rfl rfl rfl (A8 rfl rfl rfl rfl rfl (A3 rfl rfl rfl (A9 rfl (kn rfl) (kn rfl) BE) .nil))) ?_
 try refine A2 ?_
 refine AE rfl (fun h=>?_) (fun h=>?_)
 ·have e:CQ a b = -1:=OZ (by have:=of_decide_eq_true h;omega)
  try refine A2 ?_
  refine A0 (AD rfl rfl rfl rfl rfl .nil) ?_
  try refine A2 ?_
  exact A7 rfl rfl (.tmp (kn rfl) (.nil)) (Imp.of_eq (by rw[e];rfl)) rfl
 try refine A2 ?_
 refine A0 (A8 rfl rfl rfl rfl rfl (A8 rfl rfl rfl rfl rfl (A3 rfl rfl rfl (A9 rfl (kn rfl) (kn rfl) DG) .nil))) ?_
 try refine A2 ?_
 refine AE rfl (fun h2=>?_) (fun h2=>?_)
 ·have e:CQ a b=1:=OW (by have:=of_decide_eq_true h2;omega)
  try refine A2 ?_
  refine A0 (AD rfl rfl rfl rfl rfl .nil) ?_
  try refine A2 ?_
  exact A7 rfl rfl (.tmp (kn rfl) (.nil)) (Imp.of_eq (by rw[e];rfl)) rfl
 have e:CQ a b=0:=MD (by have:=of_decide_eq_false h;have:=of_decide_eq_false h2;omega)
 try refine A2 ?_
 refine A0 (AD rfl rfl rfl rfl rfl .nil) ?_
 try refine A2 ?_
 exact A7 rfl rfl (.tmp (kn rfl) (.nil)) (Imp.of_eq (by rw[e];rfl)) rfl
theorem F8(a:Nat):EF Try.prog [] 72 [uP a] (.part (tP false)):=by
 refine AF 6 Try.func72 rfl rfl rfl fun w D=>?_
 try refine A2 ?_
 refine A0 (AD rfl rfl rfl rfl rfl .nil) ?_
 try refine A2 ?_
 refine A0 (A8 rfl rfl rfl rfl rfl (A8 rfl rfl rfl rfl rfl (A3 rfl rfl rfl (A9 rfl (kn rfl) (kn rfl) C8) (AD rfl rfl rfl rfl rfl .nil)))) ?_
 try refine A2 ?_
 exact A7 rfl rfl (.tmp (kn rfl) (.nil)) (Imp.of_eq (by simp;rfl)) rfl
theorem LX(a b:Nat):EF Try.prog [] 46 [uP a,uP b] (.part (iP (ncmp a b))):=by
 refine AF 20 Try.func46 rfl rfl rfl fun w D=>?_
 try refine A2 ?_
 refine A0 (AD rfl rfl rfl rfl rfl .nil) ?_
 try refine A2 ?_
 refine A0 (A8 rfl rfl rfl rfl rfl (A3 rfl rfl rfl (AG rfl (by kernel_rfl) (F8 a) ⟨(kn rfl),trivial⟩) (AD rfl rfl rfl rfl rfl .nil))) ?_
 try refine A2 ?_
 refine A0 (A8 rfl rfl rfl rfl rfl (A3 rfl rfl rfl (AG rfl (by kernel_rfl) (F8 b) ⟨(kn rfl),trivial⟩) (AD rfl rfl rfl rfl rfl .nil))) ?_
 try refine A2 ?_
 refine A0 (A8 rfl rfl rfl rfl rfl .nil) ?_
 try refine A2 ?_
 refine N4 ?_
 try refine A2 ?_
 refine A0 (A8 rfl rfl rfl rfl rfl .nil) ?_
 try refine A2 ?_
 refine N4 ?_
 try refine A2 ?_
 refine A0 (A8 rfl rfl rfl rfl rfl (A8 rfl rfl rfl rfl rfl (A3 rfl rfl rfl (A9 rfl (kn rfl) (kn rfl) BE) .nil))) ?_
 try refine A2 ?_
 refine AE rfl (fun h=>?_) (fun h=>?_)
 ·have e:ncmp a b = -1:=GQ (by have:=of_decide_eq_true h;omega)
  try refine A2 ?_
  refine A0 (AD rfl rfl rfl rfl rfl .nil) ?_
  try refine A2 ?_
  exact A7 rfl rfl (.tmp (kn rfl) (.nil)) (Imp.of_eq (by rw[e];rfl)) rfl
 try refine A2 ?_
 refine A0 (A8 rfl rfl rfl rfl rfl (A8 rfl rfl rfl rfl rfl (A3 rfl rfl rfl (A9 rfl (kn rfl) (kn rfl) DG) .nil))) ?_
 try refine A2 ?_
 refine AE rfl (fun h2=>?_) (fun h2=>?_)
 ·have e:ncmp a b=1:=GR (by have:=of_decide_eq_true h2;omega)
  try refine A2 ?_
  refine A0 (AD rfl rfl rfl rfl rfl .nil) ?_
  try refine A2 ?_
  exact A7 rfl rfl (.tmp (kn rfl) (.nil)) (Imp.of_eq (by rw[e];rfl)) rfl
 have e:ncmp a b=0:=GP (by have:=of_decide_eq_false h;have:=of_decide_eq_false h2;omega)
 try refine A2 ?_
 refine A0 (AD rfl rfl rfl rfl rfl .nil) ?_
 try refine A2 ?_
 exact A7 rfl rfl (.tmp (kn rfl) (.nil)) (Imp.of_eq (by rw[e];rfl)) rfl
theorem HS:∀ a b:List UInt8,Lib.compareBytes a b=tcmp a b
 | [],[]=>rfl
 | [],_::_=>rfl
 | _::_,[]=>rfl
 | x::a,y::b=>by
  rw[Lib.compareBytes,tcmp,HS a b]
  simp only[UInt8.lt_iff_toNat_lt]
theorem IF(a b:List UInt8)(w:World):(callFunc 75 #[.string (str a),.string (str b)]).run Try.prog w=.ok (.value (.int .i64 (tcmp a b))) w:=by
 rw[run_callFunc_extern (e:=Extern.BytealgCompare.compare) Try.func75 (by kernel_rfl) (by kernel_rfl) (by rfl) (by rfl),Lib.run_compareString]
 show Result.ok _ w=_
 rw[show Lib.compareBytes (str a).data.toList (str b).data.toList=tcmp a b from HS a b]
theorem MP(a b:List UInt8):EF Try.prog [] 73 [sP a,sP b] (.part (iP (tcmp a b))):=by
 refine AF 8 Try.func73 rfl rfl rfl fun w D=>?_
 try refine A2 ?_
 refine A0 (AD rfl rfl rfl rfl rfl .nil) ?_
 try refine A2 ?_
 refine A0 (A8 rfl rfl rfl rfl rfl (A8 rfl rfl rfl rfl rfl (A3 rfl rfl rfl (PW rfl (IF a b) (kn rfl) (kn rfl)) (AD rfl rfl rfl rfl rfl .nil)))) ?_
 try refine A2 ?_
 exact A7 rfl rfl (.tmp (kn rfl) (.nil)) (Imp.of_eq rfl) rfl
theorem IY(a b:List UInt8):EF Try.prog [] 47 [sP a,sP b] (.part (iP (tcmp a b))):=by
 refine AF 8 Try.func47 rfl rfl rfl fun w D=>?_
 try refine A2 ?_
 refine A0 (AD rfl rfl rfl rfl rfl .nil) ?_
 try refine A2 ?_
 refine A0 (A8 rfl rfl rfl rfl rfl (A8 rfl rfl rfl rfl rfl (A3 rfl rfl rfl (AG rfl (by kernel_rfl) (MP a b) ⟨(kn rfl),⟨(kn rfl),trivial⟩⟩) (AD rfl rfl rfl rfl rfl .nil)))) ?_
 try refine A2 ?_
 exact A7 rfl rfl (.tmp (kn rfl) (.nil)) (Imp.of_eq rfl) rfl
theorem PY(x y:Int):EF Try.prog [] 48 [.one (.row 1 2 [.cell (.int .i64 x),.cell (.int .i64 y)])] (.part (iP (lex x y))):=by
 refine AF 18 Try.func48 rfl rfl rfl fun w D=>?_
 try refine A2 ?_
 refine A0 (AD rfl rfl rfl rfl rfl .nil) ?_
 try refine A2 ?_
 refine A0 (AD rfl rfl rfl rfl rfl .nil) ?_
 try refine A2 ?_
 refine A0 (A8 rfl rfl rfl rfl rfl (A3 rfl rfl rfl (AS rfl (kn rfl) sle_98) (A8 rfl rfl rfl rfl rfl .nil))) ?_
 try refine A2 ?_
 refine BC (ι:={ k:Nat // k<=2/\(1<=k->x=0)/\(2<=k->y=0) })
  (fun k=>[(3,.is (.int .i64 0)),(6,.part (.one (.row 1 [x,y].length ([x,y].flatMap fun z=>[.cell (.int .i64 z)])))),(7,.is (.int .i64 2)),(8,.is (.int .i64 (k.1:Int)))])
  (fun _=>[]) (fun _=>[]) (fun k=>2-k.1) ⟨0,by omega,by omega,by omega⟩
  (fun K=>AP ⟨s_t,s_t,s_t,s_t,trivial⟩ trivial trivial) ?_
 rintro⟨k,hk,h1,h2⟩
 dsimp only at hk h1 h2 ⊢
 try refine A2 ?_
 refine A0 (A3 rfl rfl rfl (A9 rfl (kn rfl) (kn rfl) BE) .nil) ?_
 try refine A2 ?_
 refine AE rfl (fun h=>?_) (fun h=>?_)
 ·have hlt:k<2:=by have:=of_decide_eq_true h;omega
  obtain⟨z,hz⟩:∃ z,[x,y][k]?=some z:=⟨_,List.getElem?_eq_getElem hlt⟩
  try refine A2 ?_
  refine A0 (A3 rfl rfl rfl (AO rfl (kn rfl) (kn rfl) (by omega) hz (fun _=>rfl) sle_98 esz_98 rfl) (A3 rfl rfl rfl (AC rfl (kn rfl) one_3) (AD rfl rfl rfl rfl rfl .nil))) ?_
  try refine A2 ?_
  refine A0 (A8 rfl rfl rfl rfl rfl (A8 rfl rfl rfl rfl rfl (A3 rfl rfl rfl (A9 rfl (kn rfl) (kn rfl) C8) .nil))) ?_
  try refine A2 ?_
  refine AE rfl (fun h3=>?_) (fun h3=>?_)
  ·have hne:z≠0:=by simpa using h3
   have e:lex x y=z:=by
    rcases(show k=0\/k=1 by omega)with rfl | rfl
    ·obtain rfl:x=z:=by simpa using hz
     exact F3 hne
    ·obtain rfl:y=z:=by simpa using hz
     exact EA (h1 (by omega))
   try refine A2 ?_
   refine A0 (A8 rfl rfl rfl rfl rfl (AD rfl rfl rfl rfl rfl .nil)) ?_
   try refine A2 ?_
   exact A7 rfl rfl (.tmp (kn rfl) (.nil)) (Imp.of_eq (by rw[e];rfl)) rfl
  have he:z=0:=by simpa using h3
  try refine A2 ?_
  refine A0 (A3 rfl rfl rfl (A9 rfl (kn rfl) (kn rfl) (AM (by first | omega | (dsimp only;omega)))) (A8 rfl rfl rfl rfl rfl .nil)) ?_
  try refine A2 ?_
  refine AZ ⟨k+1,by omega,fun _=>?_,fun _=>?_⟩ (by dsimp only;omega) (fun K=>AP ⟨s_t,s_t,s_t,s_t,trivial⟩ trivial trivial)
  ·rcases(show k=0\/k=1 by omega)with rfl | rfl
   ·obtain rfl:x=z:=by simpa using hz
    exact he
   ·exact h1 (by omega)
  ·obtain rfl:k=1:=by omega
   obtain rfl:y=z:=by simpa using hz
   exact he
 obtain rfl:k=2:=by have:=of_decide_eq_false h;omega
 have e:lex x y=0:=by rw[EA (h1 (by omega)),h2 (by omega)]
 try refine A2 ?_
 refine A0 (A8 rfl rfl rfl rfl rfl (AD rfl rfl rfl rfl rfl .nil)) ?_
 try refine A2 ?_
 exact A7 rfl rfl (.tmp (kn rfl) (.nil)) (Imp.of_eq (by rw[e];rfl)) rfl
abbrev fP(f:FuncId):Part:=.one (.cell (.func (.func f) #[] #[]))
def BM{α:Type}(c:α->α->Int):List α->List α->Int
 | [],[]=>0
 | [],_::_ => -1
 | _::_,[]=>1
 | x::a,y::b=>lex (c x y) (BM c a b)
theorem DL{α:Type}{c:α->α->Int}:∀ (a b:List α),(a=[]\/b=[])->BM c a b=ncmp a.length b.length
 | [],[],_=>rfl
 | [],_::_,_=>by simp[BM,ncmp]
 | _::_,[],_=>by simp[BM,ncmp]
 | _::_,_::_,h=>by simp at h
theorem IL(x y z:Int):lex x (lex y z)=lex (lex x y) z:=by
 unfold lex
 by_cases h:x=0
 ·simp[h]
 ·simp[h]
def JY(f g:Int×Vl):Int:=lex (CQ f.1 g.1) (vcmp f.2 g.2)
def L9(p q:Vl×Vl):Int:=lex (vcmp p.1 q.1) (vcmp p.2 q.2)
theorem G7:∀ a b:List (Int×Vl),BM JY a b=fcmp a b
 | [],[]=>by simp[BM,fcmp]
 | [],_::_=>by simp[BM,fcmp]
 | _::_,[]=>by simp[BM,fcmp]
 | x::a,y::b=>by rw[BM,G7 a b,G0,IL];rfl
theorem IP:∀ a b:List Vl,BM vcmp a b=lcmp a b
 | [],[]=>by simp[BM,lcmp]
 | [],_::_=>by simp[BM,lcmp]
 | _::_,[]=>by simp[BM,lcmp]
 | x::a,y::b=>by rw[BM,IP a b,FS]
theorem HF:∀ a b:List (Vl×Vl),BM L9 a b=pcmp a b
 | [],[]=>by simp[BM,pcmp]
 | [],_::_=>by simp[BM,pcmp]
 | _::_,[]=>by simp[BM,pcmp]
 | x::a,y::b=>by rw[BM,HF a b,G2,IL];rfl
abbrev fd(f:Int×Vl):List Dat:=.cell (.int .i64 f.1)::vd f.2
abbrev pd(p:Vl×Vl):List Dat:=vd p.1++vd p.2
set_option maxHeartbeats 1000000 in
theorem GM(f:FuncId)(hfc:AT Try.prog f=true)(c:Int×Vl->Int×Vl->Int)(a b:List (Int×Vl))(ha:a.length<=1000000)(hb:b.length<=1000000)(hc:∀ x∈a,∀ y∈b,EF Try.prog [] f [.many (fd x),.many (fd y)] (.part (iP (c x y)))):
  EF Try.prog [] 49 [.one (.row 8 a.length (a.flatMap fieldDats)),.one (.row 8 b.length (b.flatMap fieldDats)),fP f] (.part (iP (BM c a b))):=by
 refine AF 39 Try.func49 rfl rfl rfl fun w D=>?_
 try refine A2 ?_
 refine A0 (AD rfl rfl rfl rfl rfl .nil) ?_
 try refine A2 ?_
 refine A0 (A8 rfl rfl rfl rfl rfl (A3 rfl rfl rfl (AS rfl (kn rfl) sle_23) (A8 rfl rfl rfl rfl rfl .nil))) ?_
 try refine A2 ?_
 refine BC (ι:={ k:Nat // k<=a.length/\k<=b.length/\BM c (a.drop k) (b.drop k)=BM c a b })
  (fun k=>[(0,.part (.one (.row 8 a.length (a.flatMap fieldDats)))),(1,.part (.one (.row 8 b.length (b.flatMap fieldDats)))),(2,.part (fP f)),(11,.part (.one (.row 8 a.length (a.flatMap fieldDats)))),(12,.is (.int .i64 (a.length:Int))),(13,.is (.int .i64 (k.1:Int)))])
  (fun _=>[]) (fun _=>[]) (fun k=>a.length-k.1) ⟨0,by omega,by omega,rfl⟩
  (fun K=>AP ⟨s_t,s_t,s_t,s_t,s_t,s_t,trivial⟩ trivial trivial) ?_
 rintro⟨k,hk,hk2,hw⟩
 dsimp only at hk hk2 hw ⊢
 try refine A2 ?_
 refine A0 (A3 rfl rfl rfl (A9 rfl (kn rfl) (kn rfl) BE) .nil) ?_
 try refine A2 ?_
 refine AE rfl (fun h=>?_) (fun h=>?_)
 ·have hlt:k<a.length:=by have:=of_decide_eq_true h;omega
  obtain⟨x,hx⟩:∃ x,a[k]?=some x:=⟨_,List.getElem?_eq_getElem hlt⟩
  try refine A2 ?_
  refine AI ?_
  refine E7 ?_
  refine AV (AO rfl (kn rfl) (kn rfl) (by omega) hx BH sle_23 esz_23 (BU x)) ?_
  refine AV (AR rfl (kn rfl) agg_44 sz_44) ?_
  refine B6 8 [.is (.int .i64 0),.is (.int .i64 0),.is (.int .u64 0),.is (.string ⟨#[]⟩),.is (.slice none 0 0),.is (.string ⟨#[]⟩),.is (.slice none 0 0),.is (.slice none 0 0)] rfl rfl rfl rfl zr_44 (fun w D M V=>⟨rfl,fun j x v h1 h2=>B7 _ h1 h2 rfl⟩) rfl rfl rfl rfl ?_
  refine CM ?_
  refine B4 rfl rfl rfl (kn rfl) rfl (kn rfl) rfl rfl sz_44 ?_
  refine AN ?_
  try refine A2 ?_
  refine A0 (A8 rfl rfl rfl rfl rfl (A8 rfl rfl rfl rfl rfl (A3 rfl rfl rfl (AS rfl (kn rfl) sle_23) (A3 rfl rfl rfl (A9 rfl (kn rfl) (kn rfl) D1) .nil)))) ?_
  try refine A2 ?_
  refine AE rfl (fun h3=>?_) (fun h3=>?_)
  ·obtain rfl:k=b.length:=by have:=of_decide_eq_true h3;omega
   have e:BM c a b=1:=by
    rw[<- hw,DL _ _ (.inr (List.drop_eq_nil_of_le (Nat.le_refl _))),List.length_drop,List.length_drop,CV _ _ _ hk hk2]
    exact GR hlt
   try refine A2 ?_
   refine A0 (AD rfl rfl rfl rfl rfl .nil) ?_
   try refine A2 ?_
   exact A7 rfl rfl (.tmp (kn rfl) (.nil)) (Imp.of_eq (by rw[e];rfl)) rfl
  have hlt2:k<b.length:=by have:=of_decide_eq_false h3;omega
  obtain⟨y,hy⟩:∃ y,b[k]?=some y:=⟨_,List.getElem?_eq_getElem hlt2⟩
  rw[B8 hx,B8 hy,BM]at hw
  try refine A2 ?_
  refine AI ?_
  refine E7 ?_
  refine E7 ?_
  refine AV (AO rfl (kn rfl) (kn rfl) (by omega) hy BH sle_23 esz_23 (BU y)) ?_
  refine AV (AR rfl (kn rfl) agg_44 sz_44) ?_
  refine B6 9 [.is (.int .i64 0),.is (.int .i64 0),.is (.int .u64 0),.is (.string ⟨#[]⟩),.is (.slice none 0 0),.is (.string ⟨#[]⟩),.is (.slice none 0 0),.is (.slice none 0 0)] rfl rfl rfl rfl zr_44 (fun w D M V=>⟨rfl,fun j x v h1 h2=>B7 _ h1 h2 rfl⟩) rfl rfl rfl rfl ?_
  refine B4 rfl rfl rfl (kn rfl) rfl (kn rfl) rfl rfl sz_44 ?_
  refine AN ?_
  try refine A2 ?_
  refine A0 (A8 rfl rfl rfl rfl rfl (A3 rfl rfl rfl (AB (ds:=[_,_,_,_,_,_,_,_]) 8 rfl (kn rfl) rfl rfl agg_44 sz_44 rfl) (A3 rfl rfl rfl (AB (ds:=[_,_,_,_,_,_,_,_]) 8 rfl (kn rfl) rfl rfl agg_44 sz_44 rfl) (A3 rfl rfl rfl (BA rfl hfc (kn rfl) (hc x (List.mem_of_getElem? hx) y (List.mem_of_getElem? hy)) ⟨kn rfl,kn rfl,trivial⟩) (AD rfl rfl rfl rfl rfl .nil))))) ?_
  try refine A2 ?_
  refine A0 (A8 rfl rfl rfl rfl rfl (A3 rfl rfl rfl (A9 rfl (kn rfl) (kn rfl) C8) .nil)) ?_
  try refine A2 ?_
  refine AE rfl (fun h4=>?_) (fun h4=>?_)
  ·have e:BM c a b=c x y:=by rw[<- hw];exact F3 (by simpa using h4)
   try refine A2 ?_
   refine A0 (A8 rfl rfl rfl rfl rfl (AD rfl rfl rfl rfl rfl .nil)) ?_
   try refine A2 ?_
   exact A7 rfl rfl (.tmp (kn rfl) (.nil)) (Imp.of_eq (by rw[e];rfl)) rfl
  rw[EA (by simpa using h4)]at hw
  try refine A2 ?_
  refine A0 (A3 rfl rfl rfl (A9 rfl (kn rfl) (kn rfl) (AM (by first | omega | (dsimp only;omega)))) (A8 rfl rfl rfl rfl rfl .nil)) ?_
  try refine A2 ?_
  refine AZ ⟨k+1,by omega,by omega,hw⟩ (by dsimp only;omega) (fun K=>AP ⟨s_t,s_t,s_t,s_t,s_t,s_t,trivial⟩ trivial trivial)
 obtain rfl:k=a.length:=by have:=of_decide_eq_false h;omega
 have e:BM c a b=ncmp a.length b.length:=by
  rw[<- hw,DL _ _ (.inl (List.drop_eq_nil_of_le (Nat.le_refl _))),List.length_drop,List.length_drop,CV _ _ _ hk hk2]
 try refine A2 ?_
 refine A0 (A8 rfl rfl rfl rfl rfl (A3 rfl rfl rfl (AS rfl (kn rfl) sle_23) (A8 rfl rfl rfl rfl rfl (A3 rfl rfl rfl (AS rfl (kn rfl) sle_23) (A3 rfl rfl rfl (A9 rfl (kn rfl) (kn rfl) BE) .nil))))) ?_
 try refine A2 ?_
 refine AE rfl (fun h4=>?_) (fun h4=>?_)
 ·have e2:BM c a b = -1:=by rw[e];exact GQ (by have:=of_decide_eq_true h4;omega)
  try refine A2 ?_
  refine A0 (AD rfl rfl rfl rfl rfl .nil) ?_
  try refine A2 ?_
  exact A7 rfl rfl (.tmp (kn rfl) (.nil)) (Imp.of_eq (by rw[e2];rfl)) rfl
 have e2:BM c a b=0:=by rw[e];exact GP (by have:=of_decide_eq_false h4;omega)
 try refine A2 ?_
 refine A0 (AD rfl rfl rfl rfl rfl .nil) ?_
 try refine A2 ?_
 exact A7 rfl rfl (.tmp (kn rfl) (.nil)) (Imp.of_eq (by rw[e2];rfl)) rfl
set_option maxHeartbeats 1000000 in
theorem IB(f:FuncId)(hfc:AT Try.prog f=true)(c:Vl->Vl->Int)(a b:List (Vl))(ha:a.length<=1000000)(hb:b.length<=1000000)(hc:∀ x∈a,∀ y∈b,EF Try.prog [] f [.many (vd x),.many (vd y)] (.part (iP (c x y)))):
  EF Try.prog [] 51 [.one (.row 7 a.length (a.flatMap Vl.dats)),.one (.row 7 b.length (b.flatMap Vl.dats)),fP f] (.part (iP (BM c a b))):=by
 refine AF 39 Try.func51 rfl rfl rfl fun w D=>?_
 try refine A2 ?_
 refine A0 (AD rfl rfl rfl rfl rfl .nil) ?_
 try refine A2 ?_
 refine A0 (A8 rfl rfl rfl rfl rfl (A3 rfl rfl rfl (AS rfl (kn rfl) sle_24) (A8 rfl rfl rfl rfl rfl .nil))) ?_
 try refine A2 ?_
 refine BC (ι:={ k:Nat // k<=a.length/\k<=b.length/\BM c (a.drop k) (b.drop k)=BM c a b })
  (fun k=>[(0,.part (.one (.row 7 a.length (a.flatMap Vl.dats)))),(1,.part (.one (.row 7 b.length (b.flatMap Vl.dats)))),(2,.part (fP f)),(11,.part (.one (.row 7 a.length (a.flatMap Vl.dats)))),(12,.is (.int .i64 (a.length:Int))),(13,.is (.int .i64 (k.1:Int)))])
  (fun _=>[]) (fun _=>[]) (fun k=>a.length-k.1) ⟨0,by omega,by omega,rfl⟩
  (fun K=>AP ⟨s_t,s_t,s_t,s_t,s_t,s_t,trivial⟩ trivial trivial) ?_
 rintro⟨k,hk,hk2,hw⟩
 dsimp only at hk hk2 hw ⊢
 try refine A2 ?_
 refine A0 (A3 rfl rfl rfl (A9 rfl (kn rfl) (kn rfl) BE) .nil) ?_
 try refine A2 ?_
 refine AE rfl (fun h=>?_) (fun h=>?_)
 ·have hlt:k<a.length:=by have:=of_decide_eq_true h;omega
  obtain⟨x,hx⟩:∃ x,a[k]?=some x:=⟨_,List.getElem?_eq_getElem hlt⟩
  try refine A2 ?_
  refine AI ?_
  refine E7 ?_
  refine AV (AO rfl (kn rfl) (kn rfl) (by omega) hx Vl.dats_len sle_24 esz_24 (CI x)) ?_
  refine AV (AR rfl (kn rfl) agg_27 sz_27) ?_
  refine B6 8 [.is (.int .i64 0),.is (.int .u64 0),.is (.string ⟨#[]⟩),.is (.slice none 0 0),.is (.string ⟨#[]⟩),.is (.slice none 0 0),.is (.slice none 0 0)] rfl rfl rfl rfl zr_27 (fun w D M V=>⟨rfl,fun j x v h1 h2=>B7 _ h1 h2 rfl⟩) rfl rfl rfl rfl ?_
  refine CM ?_
  refine B4 rfl rfl rfl (kn rfl) rfl (kn rfl) rfl rfl sz_27 ?_
  refine AN ?_
  try refine A2 ?_
  refine A0 (A8 rfl rfl rfl rfl rfl (A8 rfl rfl rfl rfl rfl (A3 rfl rfl rfl (AS rfl (kn rfl) sle_24) (A3 rfl rfl rfl (A9 rfl (kn rfl) (kn rfl) D1) .nil)))) ?_
  try refine A2 ?_
  refine AE rfl (fun h3=>?_) (fun h3=>?_)
  ·obtain rfl:k=b.length:=by have:=of_decide_eq_true h3;omega
   have e:BM c a b=1:=by
    rw[<- hw,DL _ _ (.inr (List.drop_eq_nil_of_le (Nat.le_refl _))),List.length_drop,List.length_drop,CV _ _ _ hk hk2]
    exact GR hlt
   try refine A2 ?_
   refine A0 (AD rfl rfl rfl rfl rfl .nil) ?_
   try refine A2 ?_
   exact A7 rfl rfl (.tmp (kn rfl) (.nil)) (Imp.of_eq (by rw[e];rfl)) rfl
  have hlt2:k<b.length:=by have:=of_decide_eq_false h3;omega
  obtain⟨y,hy⟩:∃ y,b[k]?=some y:=⟨_,List.getElem?_eq_getElem hlt2⟩
  rw[B8 hx,B8 hy,BM]at hw
  try refine A2 ?_
  refine AI ?_
  refine E7 ?_
  refine E7 ?_
  refine AV (AO rfl (kn rfl) (kn rfl) (by omega) hy Vl.dats_len sle_24 esz_24 (CI y)) ?_
  refine AV (AR rfl (kn rfl) agg_27 sz_27) ?_
  refine B6 9 [.is (.int .i64 0),.is (.int .u64 0),.is (.string ⟨#[]⟩),.is (.slice none 0 0),.is (.string ⟨#[]⟩),.is (.slice none 0 0),.is (.slice none 0 0)] rfl rfl rfl rfl zr_27 (fun w D M V=>⟨rfl,fun j x v h1 h2=>B7 _ h1 h2 rfl⟩) rfl rfl rfl rfl ?_
  refine B4 rfl rfl rfl (kn rfl) rfl (kn rfl) rfl rfl sz_27 ?_
  refine AN ?_
  try refine A2 ?_
  refine A0 (A8 rfl rfl rfl rfl rfl (A3 rfl rfl rfl (AB (ds:=[_,_,_,_,_,_,_]) 7 rfl (kn rfl) rfl rfl agg_27 sz_27 rfl) (A3 rfl rfl rfl (AB (ds:=[_,_,_,_,_,_,_]) 7 rfl (kn rfl) rfl rfl agg_27 sz_27 rfl) (A3 rfl rfl rfl (BA rfl hfc (kn rfl) (hc x (List.mem_of_getElem? hx) y (List.mem_of_getElem? hy)) ⟨kn rfl,kn rfl,trivial⟩) (AD rfl rfl rfl rfl rfl .nil))))) ?_
  try refine A2 ?_
  refine A0 (A8 rfl rfl rfl rfl rfl (A3 rfl rfl rfl (A9 rfl (kn rfl) (kn rfl) C8) .nil)) ?_
  try refine A2 ?_
  refine AE rfl (fun h4=>?_) (fun h4=>?_)
  ·have e:BM c a b=c x y:=by rw[<- hw];exact F3 (by simpa using h4)
   try refine A2 ?_
   refine A0 (A8 rfl rfl rfl rfl rfl (AD rfl rfl rfl rfl rfl .nil)) ?_
   try refine A2 ?_
   exact A7 rfl rfl (.tmp (kn rfl) (.nil)) (Imp.of_eq (by rw[e];rfl)) rfl
  rw[EA (by simpa using h4)]at hw
  try refine A2 ?_
  refine A0 (A3 rfl rfl rfl (A9 rfl (kn rfl) (kn rfl) (AM (by first | omega | (dsimp only;omega)))) (A8 rfl rfl rfl rfl rfl .nil)) ?_
  try refine A2 ?_
  refine AZ ⟨k+1,by omega,by omega,hw⟩ (by dsimp only;omega) (fun K=>AP ⟨s_t,s_t,s_t,s_t,s_t,s_t,trivial⟩ trivial trivial)
 obtain rfl:k=a.length:=by have:=of_decide_eq_false h;omega
 have e:BM c a b=ncmp a.length b.length:=by
  rw[<- hw,DL _ _ (.inl (List.drop_eq_nil_of_le (Nat.le_refl _))),List.length_drop,List.length_drop,CV _ _ _ hk hk2]
 try refine A2 ?_
 refine A0 (A8 rfl rfl rfl rfl rfl (A3 rfl rfl rfl (AS rfl (kn rfl) sle_24) (A8 rfl rfl rfl rfl rfl (A3 rfl rfl rfl (AS rfl (kn rfl) sle_24) (A3 rfl rfl rfl (A9 rfl (kn rfl) (kn rfl) BE) .nil))))) ?_
 try refine A2 ?_
 refine AE rfl (fun h4=>?_) (fun h4=>?_)
 ·have e2:BM c a b = -1:=by rw[e];exact GQ (by have:=of_decide_eq_true h4;omega)
  try refine A2 ?_
  refine A0 (AD rfl rfl rfl rfl rfl .nil) ?_
  try refine A2 ?_
  exact A7 rfl rfl (.tmp (kn rfl) (.nil)) (Imp.of_eq (by rw[e2];rfl)) rfl
 have e2:BM c a b=0:=by rw[e];exact GP (by have:=of_decide_eq_false h4;omega)
 try refine A2 ?_
 refine A0 (AD rfl rfl rfl rfl rfl .nil) ?_
 try refine A2 ?_
 exact A7 rfl rfl (.tmp (kn rfl) (.nil)) (Imp.of_eq (by rw[e2];rfl)) rfl
set_option maxHeartbeats 1000000 in
theorem HG(f:FuncId)(hfc:AT Try.prog f=true)(c:Vl×Vl->Vl×Vl->Int)(a b:List (Vl×Vl))(ha:a.length<=1000000)(hb:b.length<=1000000)(hc:∀ x∈a,∀ y∈b,EF Try.prog [] f [.many (pd x),.many (pd y)] (.part (iP (c x y)))):
  EF Try.prog [] 52 [.one (.row 14 a.length (a.flatMap pairDats)),.one (.row 14 b.length (b.flatMap pairDats)),fP f] (.part (iP (BM c a b))):=by
 refine AF 39 Try.func52 rfl rfl rfl fun w D=>?_
 try refine A2 ?_
 refine A0 (AD rfl rfl rfl rfl rfl .nil) ?_
 try refine A2 ?_
 refine A0 (A8 rfl rfl rfl rfl rfl (A3 rfl rfl rfl (AS rfl (kn rfl) sle_25) (A8 rfl rfl rfl rfl rfl .nil))) ?_
 try refine A2 ?_
 refine BC (ι:={ k:Nat // k<=a.length/\k<=b.length/\BM c (a.drop k) (b.drop k)=BM c a b })
  (fun k=>[(0,.part (.one (.row 14 a.length (a.flatMap pairDats)))),(1,.part (.one (.row 14 b.length (b.flatMap pairDats)))),(2,.part (fP f)),(11,.part (.one (.row 14 a.length (a.flatMap pairDats)))),(12,.is (.int .i64 (a.length:Int))),(13,.is (.int .i64 (k.1:Int)))])
  (fun _=>[]) (fun _=>[]) (fun k=>a.length-k.1) ⟨0,by omega,by omega,rfl⟩
  (fun K=>AP ⟨s_t,s_t,s_t,s_t,s_t,s_t,trivial⟩ trivial trivial) ?_
 rintro⟨k,hk,hk2,hw⟩
 dsimp only at hk hk2 hw ⊢
 try refine A2 ?_
 refine A0 (A3 rfl rfl rfl (A9 rfl (kn rfl) (kn rfl) BE) .nil) ?_
 try refine A2 ?_
 refine AE rfl (fun h=>?_) (fun h=>?_)
 ·have hlt:k<a.length:=by have:=of_decide_eq_true h;omega
  obtain⟨x,hx⟩:∃ x,a[k]?=some x:=⟨_,List.getElem?_eq_getElem hlt⟩
  try refine A2 ?_
  refine AI ?_
  refine E7 ?_
  refine AV (AO rfl (kn rfl) (kn rfl) (by omega) hx BG sle_25 esz_25 (BR x)) ?_
  refine AV (AR rfl (kn rfl) agg_55 sz_55) ?_
  refine B6 8 [.is (.int .i64 0),.is (.int .u64 0),.is (.string ⟨#[]⟩),.is (.slice none 0 0),.is (.string ⟨#[]⟩),.is (.slice none 0 0),.is (.slice none 0 0),.is (.int .i64 0),.is (.int .u64 0),.is (.string ⟨#[]⟩),.is (.slice none 0 0),.is (.string ⟨#[]⟩),.is (.slice none 0 0),.is (.slice none 0 0)] rfl rfl rfl rfl zr_55 (fun w D M V=>⟨rfl,fun j x v h1 h2=>B7 _ h1 h2 rfl⟩) rfl rfl rfl rfl ?_
  refine CM ?_
  refine B4 rfl rfl rfl (kn rfl) rfl (kn rfl) rfl rfl sz_55 ?_
  refine AN ?_
  try refine A2 ?_
  refine A0 (A8 rfl rfl rfl rfl rfl (A8 rfl rfl rfl rfl rfl (A3 rfl rfl rfl (AS rfl (kn rfl) sle_25) (A3 rfl rfl rfl (A9 rfl (kn rfl) (kn rfl) D1) .nil)))) ?_
  try refine A2 ?_
  refine AE rfl (fun h3=>?_) (fun h3=>?_)
  ·obtain rfl:k=b.length:=by have:=of_decide_eq_true h3;omega
   have e:BM c a b=1:=by
    rw[<- hw,DL _ _ (.inr (List.drop_eq_nil_of_le (Nat.le_refl _))),List.length_drop,List.length_drop,CV _ _ _ hk hk2]
    exact GR hlt
   try refine A2 ?_
   refine A0 (AD rfl rfl rfl rfl rfl .nil) ?_
   try refine A2 ?_
   exact A7 rfl rfl (.tmp (kn rfl) (.nil)) (Imp.of_eq (by rw[e];rfl)) rfl
  have hlt2:k<b.length:=by have:=of_decide_eq_false h3;omega
  obtain⟨y,hy⟩:∃ y,b[k]?=some y:=⟨_,List.getElem?_eq_getElem hlt2⟩
  rw[B8 hx,B8 hy,BM]at hw
  try refine A2 ?_
  refine AI ?_
  refine E7 ?_
  refine E7 ?_
  refine AV (AO rfl (kn rfl) (kn rfl) (by omega) hy BG sle_25 esz_25 (BR y)) ?_
  refine AV (AR rfl (kn rfl) agg_55 sz_55) ?_
  refine B6 9 [.is (.int .i64 0),.is (.int .u64 0),.is (.string ⟨#[]⟩),.is (.slice none 0 0),.is (.string ⟨#[]⟩),.is (.slice none 0 0),.is (.slice none 0 0),.is (.int .i64 0),.is (.int .u64 0),.is (.string ⟨#[]⟩),.is (.slice none 0 0),.is (.string ⟨#[]⟩),.is (.slice none 0 0),.is (.slice none 0 0)] rfl rfl rfl rfl zr_55 (fun w D M V=>⟨rfl,fun j x v h1 h2=>B7 _ h1 h2 rfl⟩) rfl rfl rfl rfl ?_
  refine B4 rfl rfl rfl (kn rfl) rfl (kn rfl) rfl rfl sz_55 ?_
  refine AN ?_
  try refine A2 ?_
  refine A0 (A8 rfl rfl rfl rfl rfl (A3 rfl rfl rfl (AB (ds:=[_,_,_,_,_,_,_,_,_,_,_,_,_,_]) 14 rfl (kn rfl) rfl rfl agg_55 sz_55 rfl) (A3 rfl rfl rfl (AB (ds:=[_,_,_,_,_,_,_,_,_,_,_,_,_,_]) 14 rfl (kn rfl) rfl rfl agg_55 sz_55 rfl) (A3 rfl rfl rfl (BA rfl hfc (kn rfl) (hc x (List.mem_of_getElem? hx) y (List.mem_of_getElem? hy)) ⟨kn rfl,kn rfl,trivial⟩) (AD rfl rfl rfl rfl rfl .nil))))) ?_
  try refine A2 ?_
  refine A0 (A8 rfl rfl rfl rfl rfl (A3 rfl rfl rfl (A9 rfl (kn rfl) (kn rfl) C8) .nil)) ?_
  try refine A2 ?_
  refine AE rfl (fun h4=>?_) (fun h4=>?_)
  ·have e:BM c a b=c x y:=by rw[<- hw];exact F3 (by simpa using h4)
   try refine A2 ?_
   refine A0 (A8 rfl rfl rfl rfl rfl (AD rfl rfl rfl rfl rfl .nil)) ?_
   try refine A2 ?_
   exact A7 rfl rfl (.tmp (kn rfl) (.nil)) (Imp.of_eq (by rw[e];rfl)) rfl
  rw[EA (by simpa using h4)]at hw
  try refine A2 ?_
  refine A0 (A3 rfl rfl rfl (A9 rfl (kn rfl) (kn rfl) (AM (by first | omega | (dsimp only;omega)))) (A8 rfl rfl rfl rfl rfl .nil)) ?_
  try refine A2 ?_
  refine AZ ⟨k+1,by omega,by omega,hw⟩ (by dsimp only;omega) (fun K=>AP ⟨s_t,s_t,s_t,s_t,s_t,s_t,trivial⟩ trivial trivial)
 obtain rfl:k=a.length:=by have:=of_decide_eq_false h;omega
 have e:BM c a b=ncmp a.length b.length:=by
  rw[<- hw,DL _ _ (.inl (List.drop_eq_nil_of_le (Nat.le_refl _))),List.length_drop,List.length_drop,CV _ _ _ hk hk2]
 try refine A2 ?_
 refine A0 (A8 rfl rfl rfl rfl rfl (A3 rfl rfl rfl (AS rfl (kn rfl) sle_25) (A8 rfl rfl rfl rfl rfl (A3 rfl rfl rfl (AS rfl (kn rfl) sle_25) (A3 rfl rfl rfl (A9 rfl (kn rfl) (kn rfl) BE) .nil))))) ?_
 try refine A2 ?_
 refine AE rfl (fun h4=>?_) (fun h4=>?_)
 ·have e2:BM c a b = -1:=by rw[e];exact GQ (by have:=of_decide_eq_true h4;omega)
  try refine A2 ?_
  refine A0 (AD rfl rfl rfl rfl rfl .nil) ?_
  try refine A2 ?_
  exact A7 rfl rfl (.tmp (kn rfl) (.nil)) (Imp.of_eq (by rw[e2];rfl)) rfl
 have e2:BM c a b=0:=by rw[e];exact GP (by have:=of_decide_eq_false h4;omega)
 try refine A2 ?_
 refine A0 (AD rfl rfl rfl rfl rfl .nil) ?_
 try refine A2 ?_
 exact A7 rfl rfl (.tmp (kn rfl) (.nil)) (Imp.of_eq (by rw[e2];rfl)) rfl
end Go.Proofs.Ytojdpgeeajaojaa
