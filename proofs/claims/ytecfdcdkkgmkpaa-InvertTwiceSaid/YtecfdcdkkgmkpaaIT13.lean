/- Part 13. Conditions: as each theorem says. -/
import Derived.Test.YtecfdcdkkgmkpaaIT12
import Derived.Test.YtecfdcdkkgmkpaaProg
set_option maxRecDepth 100000
namespace Go.Proofs.Ytecfdcdkkgmkpaa
open Go.RowKit
theorem JO(f g:Int×Vl):EF Try.prog [] 99 [.many (fd f),.many (fd g)] (.part (iP (EA f.1 g.1))):=by
 refine AF 10 Try.func99 rfl rfl rfl fun w D=>?_
 try refine A1 ?_
 refine AI ?_
 refine BS 2 rfl rfl rfl rfl (kn rfl) rfl rfl rfl rfl ?_
 refine BS 3 rfl rfl rfl rfl (kn rfl) rfl rfl rfl rfl ?_
 refine C7 ?_
 refine AH ?_
 try refine A1 ?_
 refine A0 (A3 rfl rfl rfl (A4 rfl (kn rfl) off_97_0) (A3 rfl rfl rfl (A5 rfl (kn rfl) rfl rfl one_3) (A3 rfl rfl rfl (A4 rfl (kn rfl) off_97_0) (A3 rfl rfl rfl (A5 rfl (kn rfl) rfl rfl one_3) (A3 rfl rfl rfl (AG rfl (by kernel_rfl) (L9 f.1 g.1) ⟨(kn rfl),⟨(kn rfl),trivial⟩⟩) (AC rfl rfl rfl rfl rfl .nil)))))) ?_
 try refine A1 ?_
 exact A7 rfl rfl (.tmp (kn rfl) (.nil)) (Imp.of_eq rfl) rfl
theorem OK(f g:Int×Vl)(h:EF Try.prog [] 32 [.many (vd f.2),.many (vd g.2)] (.part (iP (vcmp f.2 g.2)))):EF Try.prog [] 82 [.many (fd f),.many (fd g)] (.part (iP (ON f g))):=by
 refine AF 17 Try.func82 rfl rfl rfl fun w D=>?_
 try refine A1 ?_
 refine AI ?_
 refine BS 2 rfl rfl rfl rfl (kn rfl) rfl rfl rfl rfl ?_
 refine BS 3 rfl rfl rfl rfl (kn rfl) rfl rfl rfl rfl ?_
 refine C7 ?_
 refine AH ?_
 try refine A1 ?_
 refine A0 (A3 rfl rfl rfl (AB (ds:=[_,_,_,_,_,_,_,_]) 8 rfl (kn rfl) rfl rfl agg_97 sz_97 rfl) (A3 rfl rfl rfl (AB (ds:=[_,_,_,_,_,_,_,_]) 8 rfl (kn rfl) rfl rfl agg_97 sz_97 rfl) (A3 rfl rfl rfl (AG rfl (by kernel_rfl) (JO f g) ⟨(kn rfl),⟨(kn rfl),trivial⟩⟩) (AC rfl rfl rfl rfl rfl .nil)))) ?_
 try refine A1 ?_
 refine A0 (A8 rfl rfl rfl rfl rfl (A3 rfl rfl rfl (A9 rfl (kn rfl) (kn rfl) DP) .nil)) ?_
 try refine A1 ?_
 refine AE rfl (fun h1=>?_) (fun h1=>?_)
 ·have e:ON f g=EA f.1 g.1:=HM (by simpa using h1)
  try refine A1 ?_
  refine A0 (A8 rfl rfl rfl rfl rfl (AC rfl rfl rfl rfl rfl .nil)) ?_
  try refine A1 ?_
  exact A7 rfl rfl (.tmp (kn rfl) (.nil)) (Imp.of_eq (by rw[e];rfl)) rfl
 have e:ON f g=vcmp f.2 g.2:=G6 (by simpa using h1)
 try refine A1 ?_
 refine A0 (A3 rfl rfl rfl (A4 rfl (kn rfl) off_97_1) (A3 rfl rfl rfl (AB (ds:=[_,_,_,_,_,_,_]) 7 rfl (kn rfl) rfl rfl agg_27 sz_27 rfl) (A3 rfl rfl rfl (A4 rfl (kn rfl) off_97_1) (A3 rfl rfl rfl (AB (ds:=[_,_,_,_,_,_,_]) 7 rfl (kn rfl) rfl rfl agg_27 sz_27 rfl) (A3 rfl rfl rfl (AG rfl (by kernel_rfl) (h) ⟨(kn rfl),⟨(kn rfl),trivial⟩⟩) (AC rfl rfl rfl rfl rfl .nil)))))) ?_
 try refine A1 ?_
 exact A7 rfl rfl (.tmp (kn rfl) (.nil)) (Imp.of_eq (by rw[e];rfl)) rfl
theorem PG(p q:Vl×Vl)(h:EF Try.prog [] 32 [.many (vd p.1),.many (vd q.1)] (.part (iP (vcmp p.1 q.1)))):EF Try.prog [] 100 [.many (pd p),.many (pd q)] (.part (iP (vcmp p.1 q.1))):=by
 refine AF 10 Try.func100 rfl rfl rfl fun w D=>?_
 try refine A1 ?_
 refine AI ?_
 refine BS 2 rfl rfl rfl rfl (kn rfl) rfl rfl rfl rfl ?_
 refine BS 3 rfl rfl rfl rfl (kn rfl) rfl rfl rfl rfl ?_
 refine C7 ?_
 refine AH ?_
 try refine A1 ?_
 refine A0 (A3 rfl rfl rfl (A4 rfl (kn rfl) off_101_0) (A3 rfl rfl rfl (AB (ds:=[_,_,_,_,_,_,_]) 7 rfl (kn rfl) rfl rfl agg_27 sz_27 rfl) (A3 rfl rfl rfl (A4 rfl (kn rfl) off_101_0) (A3 rfl rfl rfl (AB (ds:=[_,_,_,_,_,_,_]) 7 rfl (kn rfl) rfl rfl agg_27 sz_27 rfl) (A3 rfl rfl rfl (AG rfl (by kernel_rfl) (h) ⟨(kn rfl),⟨(kn rfl),trivial⟩⟩) (AC rfl rfl rfl rfl rfl .nil)))))) ?_
 try refine A1 ?_
 exact A7 rfl rfl (.tmp (kn rfl) (.nil)) (Imp.of_eq rfl) rfl
theorem OW(p q:Vl×Vl)(hk:EF Try.prog [] 32 [.many (vd p.1),.many (vd q.1)] (.part (iP (vcmp p.1 q.1))))(h:EF Try.prog [] 32 [.many (vd p.2),.many (vd q.2)] (.part (iP (vcmp p.2 q.2)))):EF Try.prog [] 85 [.many (pd p),.many (pd q)] (.part (iP (PF p q))):=by
 refine AF 17 Try.func85 rfl rfl rfl fun w D=>?_
 try refine A1 ?_
 refine AI ?_
 refine BS 2 rfl rfl rfl rfl (kn rfl) rfl rfl rfl rfl ?_
 refine BS 3 rfl rfl rfl rfl (kn rfl) rfl rfl rfl rfl ?_
 refine C7 ?_
 refine AH ?_
 try refine A1 ?_
 refine A0 (A3 rfl rfl rfl (AB (ds:=[_,_,_,_,_,_,_,_,_,_,_,_,_,_]) 14 rfl (kn rfl) rfl rfl agg_101 sz_101 rfl) (A3 rfl rfl rfl (AB (ds:=[_,_,_,_,_,_,_,_,_,_,_,_,_,_]) 14 rfl (kn rfl) rfl rfl agg_101 sz_101 rfl) (A3 rfl rfl rfl (AG rfl (by kernel_rfl) (PG p q hk) ⟨(kn rfl),⟨(kn rfl),trivial⟩⟩) (AC rfl rfl rfl rfl rfl .nil)))) ?_
 try refine A1 ?_
 refine A0 (A8 rfl rfl rfl rfl rfl (A3 rfl rfl rfl (A9 rfl (kn rfl) (kn rfl) DP) .nil)) ?_
 try refine A1 ?_
 refine AE rfl (fun h1=>?_) (fun h1=>?_)
 ·have e:PF p q=vcmp p.1 q.1:=HM (by simpa using h1)
  try refine A1 ?_
  refine A0 (A8 rfl rfl rfl rfl rfl (AC rfl rfl rfl rfl rfl .nil)) ?_
  try refine A1 ?_
  exact A7 rfl rfl (.tmp (kn rfl) (.nil)) (Imp.of_eq (by rw[e];rfl)) rfl
 have e:PF p q=vcmp p.2 q.2:=G6 (by simpa using h1)
 try refine A1 ?_
 refine A0 (A3 rfl rfl rfl (A4 rfl (kn rfl) off_101_1) (A3 rfl rfl rfl (AB (ds:=[_,_,_,_,_,_,_]) 7 rfl (kn rfl) rfl rfl agg_27 sz_27 rfl) (A3 rfl rfl rfl (A4 rfl (kn rfl) off_101_1) (A3 rfl rfl rfl (AB (ds:=[_,_,_,_,_,_,_]) 7 rfl (kn rfl) rfl rfl agg_27 sz_27 rfl) (A3 rfl rfl rfl (AG rfl (by kernel_rfl) (h) ⟨(kn rfl),⟨(kn rfl),trivial⟩⟩) (AC rfl rfl rfl rfl rfl .nil)))))) ?_
 try refine A1 ?_
 exact A7 rfl rfl (.tmp (kn rfl) (.nil)) (Imp.of_eq (by rw[e];rfl)) rfl
def B7(v:Vl):Prop:=vnodes v<=1000000
theorem F6{v:Vl}(h:B7 v):v.fields.length<=1000000/\v.list.length<=1000000/\v.pairs.length<=1000000:=by
 have h0:vnodes v<=1000000:=h
 have h1:=KS v.fields
 have h2:=KT v.list
 have h3:=KR v.pairs
 have h4:=CE v
 omega
theorem G9{v:Vl}(h:B7 v){f:Int×Vl}(hf:f∈v.fields):B7 f.2:=by
 have h0:vnodes v<=1000000:=h
 have h1:=QW hf
 have h4:=CE v
 show vnodes f.2<=1000000
 omega
theorem HX{v:Vl}(h:B7 v){x:Vl}(hf:x∈v.list):B7 x:=by
 have h0:vnodes v<=1000000:=h
 have h1:=LH hf
 have h4:=CE v
 show vnodes x<=1000000
 omega
theorem CY{v:Vl}(h:B7 v){p:Vl×Vl}(hf:p∈v.pairs):B7 p.1/\B7 p.2:=by
 have h0:vnodes v<=1000000:=h
 have h1:=QA hf
 have h4:=CE v
 exact⟨show vnodes p.1<=1000000 by omega,show vnodes p.2<=1000000 by omega⟩
def Q2(a:Vl):Prop:=∀ b:Vl,B7 b->EF Try.prog [] 32 [.many (vd a),.many (vd b)] (.part (iP (vcmp a b)))
set_option maxHeartbeats 1000000 in
theorem M7(a:Vl)(ha:B7 a)(hf:∀ f∈a.fields,Q2 f.2)(hl:∀ x∈a.list,Q2 x)(hp:∀ p∈a.pairs,Q2 p.1/\Q2 p.2):Q2 a:=by
 intro b hb
 obtain⟨a1,a2,a3⟩:=F6 ha
 obtain⟨b1,b2,b3⟩:=F6 hb
 have hF:=JW 82 (by kernel_rfl) ON a.fields b.fields a1 b1 fun x hx y hy=>OK x y (hf x hx y.2 (G9 hb hy))
 have hL:=LU 32 (by kernel_rfl) vcmp a.list b.list a2 b2 fun x hx y hy=>hl x hx y (HX hb hy)
 have hP:=LD 85 (by kernel_rfl) PF a.pairs b.pairs a3 b3 fun x hx y hy=>OW x y ((hp x hx).1 y.1 (CY hb hy).1) ((hp x hx).2 y.2 (CY hb hy).2)
 rw[JH]at hF
 rw[MS]at hL
 rw[KL]at hP
 refine AF 59 Try.func32 rfl rfl rfl fun w D=>?_
 try refine A1 ?_
 refine AI ?_
 refine BS 2 rfl rfl rfl rfl (kn rfl) rfl rfl rfl rfl ?_
 refine BS 3 rfl rfl rfl rfl (kn rfl) rfl rfl rfl rfl ?_
 refine C7 ?_
 refine AH ?_
 try refine A1 ?_
 refine A0 (A3 rfl rfl rfl (A4 rfl (kn rfl) off_27_0) (A3 rfl rfl rfl (A5 rfl (kn rfl) rfl rfl one_3) (A3 rfl rfl rfl (A4 rfl (kn rfl) off_27_0) (A3 rfl rfl rfl (A5 rfl (kn rfl) rfl rfl one_3) (A3 rfl rfl rfl (A9 rfl (kn rfl) (kn rfl) DP) .nil))))) ?_
 try refine A1 ?_
 refine AE rfl (fun h=>?_) (fun h=>?_)
 ·have hne:a.kind≠b.kind:=by simpa using h
  have e:vcmp a b=EA a.kind b.kind:=by rw[I0,HM (fun h0=>hne (ME h0))]
  try refine A1 ?_
  refine A0 (A3 rfl rfl rfl (A4 rfl (kn rfl) off_27_0) (A3 rfl rfl rfl (A5 rfl (kn rfl) rfl rfl one_3) (A3 rfl rfl rfl (A4 rfl (kn rfl) off_27_0) (A3 rfl rfl rfl (A5 rfl (kn rfl) rfl rfl one_3) (A3 rfl rfl rfl (AG rfl (by kernel_rfl) (L9 a.kind b.kind) ⟨(kn rfl),⟨(kn rfl),trivial⟩⟩) (AC rfl rfl rfl rfl rfl .nil)))))) ?_
  try refine A1 ?_
  exact A7 rfl rfl (.tmp (kn rfl) (.nil)) (Imp.of_eq (by rw[e];rfl)) rfl
 have he:vcmp a b=body a.kind a b:=by rw[I0,G6 (RQ (by simpa using h))]
 clear h
 try refine A1 ?_
 refine A0 (A3 rfl rfl rfl (A4 rfl (kn rfl) off_27_0) (A3 rfl rfl rfl (A5 rfl (kn rfl) rfl rfl one_3) .nil)) ?_
 try refine A1 ?_
 try refine A1 ?_
 refine A0 (A3 rfl rfl rfl (A9 rfl (kn rfl) (kn rfl) AL) (AC rfl rfl rfl rfl rfl .nil)) ?_
 try refine A1 ?_
 refine AE rfl (fun q1=>?_) (fun q1=>?_)
 ·have e:vcmp a b=ncmp a.num b.num:=by rw[he];exact if_pos (of_decide_eq_true q1)
  try refine A1 ?_
  refine A0 (A3 rfl rfl rfl (A4 rfl (kn rfl) off_27_1) (A3 rfl rfl rfl (A5 rfl (kn rfl) rfl rfl one_22) (A3 rfl rfl rfl (A4 rfl (kn rfl) off_27_1) (A3 rfl rfl rfl (A5 rfl (kn rfl) rfl rfl one_22) (A3 rfl rfl rfl (AG rfl (by kernel_rfl) (QL a.num b.num) ⟨(kn rfl),⟨(kn rfl),trivial⟩⟩) (AC rfl rfl rfl rfl rfl .nil)))))) ?_
  try refine A1 ?_
  exact A7 rfl rfl (.tmp (kn rfl) (.nil)) (Imp.of_eq (by rw[e];rfl)) rfl
 have n1:=of_decide_eq_false q1
 try refine A1 ?_
 refine A0 (A3 rfl rfl rfl (A9 rfl (kn rfl) (kn rfl) AL) (AC rfl rfl rfl rfl rfl .nil)) ?_
 try refine A1 ?_
 refine AE rfl (fun q2=>?_) (fun q2=>?_)
 ·have e:vcmp a b=tcmp a.text b.text:=by rw[he];exact(if_neg n1).trans (if_pos (of_decide_eq_true q2))
  try refine A1 ?_
  refine A0 (A3 rfl rfl rfl (A4 rfl (kn rfl) off_27_2) (A3 rfl rfl rfl (A5 rfl (kn rfl) rfl rfl one_9) (A3 rfl rfl rfl (A4 rfl (kn rfl) off_27_2) (A3 rfl rfl rfl (A5 rfl (kn rfl) rfl rfl one_9) (A3 rfl rfl rfl (AG rfl (by kernel_rfl) (MW a.text b.text) ⟨(kn rfl),⟨(kn rfl),trivial⟩⟩) (AC rfl rfl rfl rfl rfl .nil)))))) ?_
  try refine A1 ?_
  exact A7 rfl rfl (.tmp (kn rfl) (.nil)) (Imp.of_eq (by rw[e];rfl)) rfl
 have n2:=of_decide_eq_false q2
 try refine A1 ?_
 refine A0 (A3 rfl rfl rfl (A9 rfl (kn rfl) (kn rfl) AL) (AC rfl rfl rfl rfl rfl .nil)) ?_
 try refine A1 ?_
 refine AE rfl (fun q3=>?_) (fun q3=>?_)
 ·have e:vcmp a b=lex (fcmp a.fields b.fields) (tcmp a.rest b.rest):=by rw[he];exact(if_neg n1).trans ((if_neg n2).trans (if_pos (of_decide_eq_true q3)))
  try refine A1 ?_
  refine BZ C8 (by kernel_rfl) (A3 rfl rfl rfl (A4 rfl (kn rfl) off_27_3) (A3 rfl rfl rfl (A5 rfl (kn rfl) rfl rfl one_23) (A3 rfl rfl rfl (A4 rfl (kn rfl) off_27_3) (A3 rfl rfl rfl (A5 rfl (kn rfl) rfl rfl one_23) (A3 rfl rfl rfl (AG rfl (by kernel_rfl) (hF) ⟨(kn rfl),⟨(kn rfl),⟨(kn rfl),trivial⟩⟩⟩) (A3 rfl rfl rfl (A4 rfl (kn rfl) off_27_4) (A3 rfl rfl rfl (A5 rfl (kn rfl) rfl rfl one_9) (A3 rfl rfl rfl (A4 rfl (kn rfl) off_27_4) (A3 rfl rfl rfl (A5 rfl (kn rfl) rfl rfl one_9) (A3 rfl rfl rfl (AG rfl (by kernel_rfl) (MW a.rest b.rest) ⟨(kn rfl),⟨(kn rfl),trivial⟩⟩) (A3 rfl rfl rfl (DO (ds:=[_,_]) [(0,_),(1,_)] rfl ⟨rfl,(kn rfl),⟨rfl,(kn rfl),trivial⟩⟩ rfl sl_70 sz_3 zr_3 (fun w D=>.cons (.cell _) (.cons (.cell _) (.nil _ _))) rfl rfl rfl rfl rfl) (A3 rfl rfl rfl (AG rfl (by kernel_rfl) (XA (fcmp a.fields b.fields) (tcmp a.rest b.rest)) ⟨(kn rfl),trivial⟩) (AC rfl rfl rfl rfl rfl .nil))))))))))))) ?_
  try refine A1 ?_
  exact A7 rfl rfl (.tmp (kn rfl) (.nil)) (Imp.of_eq (by rw[e];rfl)) rfl
 have n3:=of_decide_eq_false q3
 try refine A1 ?_
 refine A0 (A3 rfl rfl rfl (A9 rfl (kn rfl) (kn rfl) AL) (AC rfl rfl rfl rfl rfl .nil)) ?_
 try refine A1 ?_
 refine AE rfl (fun q4=>?_) (fun q4=>?_)
 ·have e:vcmp a b=lcmp a.list b.list:=by rw[he];exact(if_neg n1).trans ((if_neg n2).trans ((if_neg n3).trans (if_pos (of_decide_eq_true q4))))
  try refine A1 ?_
  refine A0 (A3 rfl rfl rfl (A4 rfl (kn rfl) off_27_5) (A3 rfl rfl rfl (A5 rfl (kn rfl) rfl rfl one_24) (A3 rfl rfl rfl (A4 rfl (kn rfl) off_27_5) (A3 rfl rfl rfl (A5 rfl (kn rfl) rfl rfl one_24) (A3 rfl rfl rfl (AG rfl (by kernel_rfl) (hL) ⟨(kn rfl),⟨(kn rfl),⟨(kn rfl),trivial⟩⟩⟩) (AC rfl rfl rfl rfl rfl .nil)))))) ?_
  try refine A1 ?_
  exact A7 rfl rfl (.tmp (kn rfl) (.nil)) (Imp.of_eq (by rw[e];rfl)) rfl
 have n4:=of_decide_eq_false q4
 try refine A1 ?_
 refine A0 (A3 rfl rfl rfl (A9 rfl (kn rfl) (kn rfl) AL) (AC rfl rfl rfl rfl rfl .nil)) ?_
 try refine A1 ?_
 refine AE rfl (fun q5=>?_) (fun q5=>?_)
 ·have e:vcmp a b=pcmp a.pairs b.pairs:=by rw[he];exact(if_neg n1).trans ((if_neg n2).trans ((if_neg n3).trans ((if_neg n4).trans (if_pos (of_decide_eq_true q5)))))
  try refine A1 ?_
  refine A0 (A3 rfl rfl rfl (A4 rfl (kn rfl) off_27_6) (A3 rfl rfl rfl (A5 rfl (kn rfl) rfl rfl one_25) (A3 rfl rfl rfl (A4 rfl (kn rfl) off_27_6) (A3 rfl rfl rfl (A5 rfl (kn rfl) rfl rfl one_25) (A3 rfl rfl rfl (AG rfl (by kernel_rfl) (hP) ⟨(kn rfl),⟨(kn rfl),⟨(kn rfl),trivial⟩⟩⟩) (AC rfl rfl rfl rfl rfl .nil)))))) ?_
  try refine A1 ?_
  exact A7 rfl rfl (.tmp (kn rfl) (.nil)) (Imp.of_eq (by rw[e];rfl)) rfl
 have n5:=of_decide_eq_false q5
 have e:vcmp a b=0:=by rw[he];exact(if_neg n1).trans ((if_neg n2).trans ((if_neg n3).trans ((if_neg n4).trans (if_neg n5))))
 try refine A1 ?_
 refine A0 (AC rfl rfl rfl rfl rfl .nil) ?_
 try refine A1 ?_
 exact A7 rfl rfl (.tmp (kn rfl) (.nil)) (Imp.of_eq (by rw[e];rfl)) rfl
theorem G5(a:Vl)(ha:B7 a):Q2 a:=by
 revert ha
 exact Vl.parts (P:=fun a=>B7 a->Q2 a) (fun v hf hl hp ha=>M7 v ha (fun f h=>hf f h (G9 ha h)) (fun x h=>hl x h (HX ha h)) (fun p h=>⟨(hp p h).1 (CY ha h).1,(hp p h).2 (CY ha h).2⟩)) a
theorem ET(a b:Vl)(ha:B7 a)(hb:B7 b):EF Try.prog [] 18 [.many (vd a),.many (vd b)] (.part (tP (decide (vcmp a b=0)))):=by
 refine AF 9 Try.func18 rfl rfl rfl fun w D=>?_
 try refine A1 ?_
 refine AI ?_
 refine BS 2 rfl rfl rfl rfl (kn rfl) rfl rfl rfl rfl ?_
 refine BS 3 rfl rfl rfl rfl (kn rfl) rfl rfl rfl rfl ?_
 refine C7 ?_
 refine AH ?_
 try refine A1 ?_
 refine A0 (A3 rfl rfl rfl (AB (ds:=[_,_,_,_,_,_,_]) 7 rfl (kn rfl) rfl rfl agg_27 sz_27 rfl) (A3 rfl rfl rfl (AB (ds:=[_,_,_,_,_,_,_]) 7 rfl (kn rfl) rfl rfl agg_27 sz_27 rfl) (A3 rfl rfl rfl (AG rfl (by kernel_rfl) (G5 a ha b hb) ⟨(kn rfl),⟨(kn rfl),trivial⟩⟩) (A3 rfl rfl rfl (A9 rfl (kn rfl) (kn rfl) AL) (AC rfl rfl rfl rfl rfl .nil))))) ?_
 try refine A1 ?_
 exact A7 rfl rfl (.tmp (kn rfl) (.nil)) (Imp.of_eq rfl) rfl
section
open Go
def BI{α:Type}(c:α->α->Int):List α->Bool
 | []=>true
 | [_]=>true
 | x::y::l=>decide (c x y<0)&&BI c (y::l)
def GE(v:Vl):Bool:=
 (decide (v.kind=1)||decide (v.num=0))&&(decide (v.kind=2)||decide (v.text=[]))&&(decide (v.kind=3)||decide (v.fields=[]))&&(decide (v.kind=3)||decide (v.rest=[]))&&(decide (v.kind=4)||decide (v.list=[]))&&(decide (v.kind=5)||decide (v.pairs=[]))
def TT(n:Int):Bool:=decide (1<=n)&&decide (n<=536870911)
def fok(f:Int×Vl):Bool:=TT f.1 && !decide (f.2.kind=0)&&vright f.2
def H8(x:Vl):Bool:=decide (1<=x.kind)&&decide (x.kind<=3)&&vright x
def pok(k:Int)(p:Vl×Vl):Bool:=decide (p.1.kind=k)&&(vright p.1&&H8 p.2)
def JT(f g:Int×Vl):Int:=EA f.1 g.1
def M9(p q:Vl×Vl):Int:=vcmp p.1 q.1
def DV:List (Vl×Vl)->Bool
 | []=>false
 | p::ps=>(decide (p.1.kind=1)||decide (p.1.kind=2))&&((p::ps).all (pok p.1.kind)&&BI M9 (p::ps))
theorem NK(a b:Int):EA a b<0↔a<b:=by
 unfold EA
 repeat' split
 all_goals omega
theorem GF:∀ (fs:List (Int×Vl)) (p:Int),fright p fs=(fs.all fok&&(match fs with | []=>true | f::_=>decide (p<f.1))&&BI JT fs)
 | [],p=>by simp[fright,BI]
 | [(n,x)],p=>by
  rw[fright,GF [] n,Bool.eq_iff_iff]
  simp only[List.all_cons,List.all_nil,BI,fok,TT,Bool.and_eq_true,Bool.not_eq_true',decide_eq_true_eq,decide_eq_false_iff_not,and_true,ne_eq,true_and]
  constructor
  ·rintro⟨⟨⟨⟨a,b⟩,c⟩,d⟩,e⟩
   exact⟨⟨⟨⟨a,b⟩,d⟩,e⟩,c⟩
  ·rintro⟨⟨⟨⟨a,b⟩,d⟩,e⟩,c⟩
   exact⟨⟨⟨⟨a,b⟩,c⟩,d⟩,e⟩
 | (n,x)::(m,y)::fs,p=>by
  rw[fright,GF ((m,y)::fs) n,Bool.eq_iff_iff,BI,show((n,x)::(m,y)::fs).all fok=(fok (n,x)&&((m,y)::fs).all fok) from rfl,show JT (n,x) (m,y)=EA n m from rfl]
  generalize((m,y)::fs).all fok=A
  generalize BI JT ((m,y)::fs)=G
  simp only[fok,TT,NK,Bool.and_eq_true,Bool.not_eq_true',decide_eq_true_eq,decide_eq_false_iff_not,ne_eq]
  constructor
  ·rintro⟨⟨⟨⟨⟨a,b⟩,c⟩,d⟩,e⟩,⟨f,g⟩,h⟩
   exact⟨⟨⟨⟨⟨⟨a,b⟩,d⟩,e⟩,f⟩,c⟩,g,h⟩
  ·rintro⟨⟨⟨⟨⟨⟨a,b⟩,d⟩,e⟩,f⟩,c⟩,g,h⟩
   exact⟨⟨⟨⟨⟨a,b⟩,c⟩,d⟩,e⟩,⟨f,g⟩,h⟩
theorem K9(x:Vl):vone x=(decide (1<=x.kind)&&decide (x.kind<=3)):=by
 rw[Bool.eq_iff_iff]
 unfold vone
 simp only[Bool.or_eq_true,Bool.and_eq_true,decide_eq_true_eq]
 omega
theorem JN:∀ ls:List Vl,lright ls=ls.all H8
 | []=>by simp[lright]
 | x::ls=>by rw[lright,JN ls,List.all_cons,K9];rfl
theorem EW(k:Int)(hk:k=1\/k=2):∀ (ps:List (Vl×Vl)) (q:Vl×Vl),q.1.kind=k->pright (some q.1) ps=(ps.all (pok k)&&BI M9 (q::ps))
 | [],q,_=>by simp[pright,BI]
 | (a,x)::ps,q,hq=>by
  rw[pright,BI,List.all_cons,Bool.eq_iff_iff,show M9 q (a,x)=vcmp q.1 a from rfl]
  simp only[K9,pok,H8,Bool.and_eq_true,decide_eq_true_eq]
  constructor
  ·rintro⟨⟨⟨⟨⟨⟨_,_⟩,c⟩,d⟩,e⟩,f,g⟩,h⟩
   have hak:a.kind=k:=by omega
   rw[EW k hk ps (a,x) hak]at h
   simp only[Bool.and_eq_true]at h
   exact⟨⟨⟨hak,c,d,e⟩,h.1⟩,g,h.2⟩
  ·rintro⟨⟨⟨hak,c,d,e⟩,h⟩,g,i⟩
   rw[EW k hk ps (a,x) hak]
   simp only[Bool.and_eq_true]
   exact⟨⟨⟨⟨⟨⟨by omega,by omega,by omega⟩,c⟩,d⟩,e⟩,by omega,g⟩,h,i⟩
theorem OR:∀ ps:List (Vl×Vl),pright none ps=(decide (ps=[])||DV ps)
 | []=>by simp[pright]
 | (a,x)::ps=>by
  rw[pright,DV,List.all_cons,Bool.eq_iff_iff]
  simp only[K9,pok,H8,Bool.and_eq_true,Bool.or_eq_true,decide_eq_true_eq,and_true,true_and,reduceCtorEq,false_or]
  constructor
  ·rintro⟨⟨⟨⟨⟨a1,a2,a3⟩,c⟩,d⟩,e⟩,h⟩
   have hk:a.kind=1\/a.kind=2:=by omega
   rw[EW a.kind hk ps (a,x) rfl]at h
   simp only[Bool.and_eq_true]at h
   exact⟨hk,⟨⟨c,d,e⟩,h.1⟩,h.2⟩
  ·rintro⟨hk,⟨⟨c,d,e⟩,h⟩,i⟩
   rw[EW a.kind hk ps (a,x) rfl]
   simp only[Bool.and_eq_true]
   exact⟨⟨⟨⟨⟨by omega,by omega,by omega⟩,c⟩,d⟩,e⟩,h,i⟩
def GP(v:Vl):Bool:=
 GE v&&(if v.kind=0\/v.kind=1\/v.kind=2 then true else if v.kind=3 then v.fields.all fok&&BI JT v.fields else if v.kind=4 then decide (v.list≠[])&&v.list.all H8 else if v.kind=5 then DV v.pairs else false)
theorem OY(v:Vl):vright v=GP v:=by
 rw[MI,GF,JN,OR,Bool.eq_iff_iff]
 have hf:(v.fields.all fok=true)->(match v.fields with | []=>true | f::_=>decide (0<f.1))=true:=fun h=>by
  revert h
  cases v.fields with
  | nil=>exact fun _=>rfl
  | cons f fs=>
   intro h
   simp only[List.all_cons,fok,TT,Bool.and_eq_true,decide_eq_true_eq]at h ⊢
   omega
 simp only[Bool.and_eq_true,KC,Bool.or_eq_true,decide_eq_true_eq]
 unfold GP GE
 simp only[Bool.and_eq_true,Bool.or_eq_true,decide_eq_true_eq]
 constructor
 ·rintro⟨⟨⟨⟨h0,h5,hn,ht,hfr,hl,hp⟩,⟨f1,f2⟩,f3⟩,l1⟩,p1⟩
  refine⟨⟨⟨⟨⟨⟨?_,?_⟩,?_⟩,?_⟩,?_⟩,?_⟩,?_⟩
  ·by_cases h:v.kind=1
   ·exact .inl h
   ·exact .inr (hn h)
  ·by_cases h:v.kind=2
   ·exact .inl h
   ·exact .inr (ht h)
  ·by_cases h:v.kind=3
   ·exact .inl h
   ·exact .inr (hfr h).1
  ·by_cases h:v.kind=3
   ·exact .inl h
   ·exact .inr (hfr h).2
  ·by_cases h:v.kind=4
   ·exact .inl h
   ·exact .inr (Decidable.not_not.1 fun q=>h (hl.2 q))
  ·by_cases h:v.kind=5
   ·exact .inl h
   ·exact .inr (Decidable.not_not.1 fun q=>h (hp.2 q))
  ·rcases(show v.kind=0\/v.kind=1\/v.kind=2\/v.kind=3\/v.kind=4\/v.kind=5 by omega)with h | h | h | h | h | h
   ·rw[if_pos (by omega)]
   ·rw[if_pos (by omega)]
   ·rw[if_pos (by omega)]
   ·rw[if_neg (by omega),if_pos h,f1,f3];rfl
   ·rw[if_neg (by omega),if_neg (by omega),if_pos h,l1,Bool.and_true]
    exact decide_eq_true (hl.1 h)
   ·rw[if_neg (by omega),if_neg (by omega),if_neg (by omega),if_pos h]
    exact p1.resolve_left (hp.1 h)
 ·rintro⟨⟨⟨⟨⟨⟨b1,b2⟩,b3⟩,b4⟩,b5⟩,b6⟩,hs⟩
  have hk:v.kind=0\/v.kind=1\/v.kind=2\/v.kind=3\/v.kind=4\/v.kind=5:=Decidable.byContradiction fun hno=>by
   rw[if_neg (by omega),if_neg (by omega),if_neg (by omega),if_neg (by omega)]at hs
   cases hs
  have hl:v.kind=4↔v.list≠[]:=⟨fun h=>by
   rw[if_neg (by omega),if_neg (by omega),if_pos h]at hs
   simp only[Bool.and_eq_true,decide_eq_true_eq]at hs
   exact hs.1,fun h=>b5.resolve_right h⟩
  have hp:v.kind=5↔v.pairs≠[]:=⟨fun h e=>by
   rw[if_neg (by omega),if_neg (by omega),if_neg (by omega),if_pos h,e]at hs
   exact absurd hs (by decide),fun h=>b6.resolve_right h⟩
  have h3:v.kind=3->v.fields.all fok=true/\BI JT v.fields=true:=fun h=>by
   rw[if_neg (by omega),if_pos h]at hs
   simpa only[Bool.and_eq_true]using hs
  have hff:v.fields.all fok=true/\BI JT v.fields=true:=by
   by_cases h:v.kind=3
   ·exact h3 h
   ·rw[b3.resolve_left h];exact⟨rfl,rfl⟩
  have hll:v.list.all H8=true:=by
   by_cases h:v.kind=4
   ·rw[if_neg (by omega),if_neg (by omega),if_pos h]at hs
    simp only[Bool.and_eq_true]at hs
    exact hs.2
   ·rw[b5.resolve_left h];rfl
  have hpp:v.pairs=[]\/DV v.pairs=true:=by
   by_cases h:v.kind=5
   ·rw[if_neg (by omega),if_neg (by omega),if_neg (by omega),if_pos h]at hs
    exact .inr hs
   ·exact .inl (b6.resolve_left h)
  exact⟨⟨⟨⟨by omega,by omega,fun h=>b1.resolve_left h,fun h=>b2.resolve_left h,fun h=>⟨b3.resolve_left h,b4.resolve_left h⟩,hl,hp⟩,⟨hff.1,hf hff.1⟩,hff.2⟩,hll⟩,hpp⟩
end
end Go.Proofs.Ytecfdcdkkgmkpaa
