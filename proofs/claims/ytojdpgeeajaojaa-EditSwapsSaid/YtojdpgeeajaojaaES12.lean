/- Part 12. Conditions: as each theorem says. -/
import Derived.Test.YtojdpgeeajaojaaES11
import Derived.Test.YtojdpgeeajaojaaProg
set_option maxRecDepth 100000
namespace Go.Proofs.Ytojdpgeeajaojaa
open Go.RowKit
theorem G9(f g:Int×Vl):EF Try.prog [] 17 [.many (fd f),.many (fd g)] (.part (iP (CQ f.1 g.1))):=by
 refine AF 10 Try.func17 rfl rfl rfl fun w D=>?_
 try refine A2 ?_
 refine AI ?_
 refine BB 2 rfl rfl rfl rfl (kn rfl) rfl rfl rfl rfl ?_
 refine BB 3 rfl rfl rfl rfl (kn rfl) rfl rfl rfl rfl ?_
 refine CM ?_
 refine AN ?_
 try refine A2 ?_
 refine A0 (A3 rfl rfl rfl (A4 rfl (kn rfl) off_44_0) (A3 rfl rfl rfl (A6 rfl (kn rfl) rfl rfl one_3) (A3 rfl rfl rfl (A4 rfl (kn rfl) off_44_0) (A3 rfl rfl rfl (A6 rfl (kn rfl) rfl rfl one_3) (A3 rfl rfl rfl (AG rfl (by kernel_rfl) (HY f.1 g.1) ⟨(kn rfl),⟨(kn rfl),trivial⟩⟩) (AD rfl rfl rfl rfl rfl .nil)))))) ?_
 try refine A2 ?_
 exact A7 rfl rfl (.tmp (kn rfl) (.nil)) (Imp.of_eq rfl) rfl
theorem KN(f g:Int×Vl)(h:EF Try.prog [] 22 [.many (vd f.2),.many (vd g.2)] (.part (iP (vcmp f.2 g.2)))):EF Try.prog [] 50 [.many (fd f),.many (fd g)] (.part (iP (JY f g))):=by
 refine AF 17 Try.func50 rfl rfl rfl fun w D=>?_
 try refine A2 ?_
 refine AI ?_
 refine BB 2 rfl rfl rfl rfl (kn rfl) rfl rfl rfl rfl ?_
 refine BB 3 rfl rfl rfl rfl (kn rfl) rfl rfl rfl rfl ?_
 refine CM ?_
 refine AN ?_
 try refine A2 ?_
 refine A0 (A3 rfl rfl rfl (AB (ds:=[_,_,_,_,_,_,_,_]) 8 rfl (kn rfl) rfl rfl agg_44 sz_44 rfl) (A3 rfl rfl rfl (AB (ds:=[_,_,_,_,_,_,_,_]) 8 rfl (kn rfl) rfl rfl agg_44 sz_44 rfl) (A3 rfl rfl rfl (AG rfl (by kernel_rfl) (G9 f g) ⟨(kn rfl),⟨(kn rfl),trivial⟩⟩) (AD rfl rfl rfl rfl rfl .nil)))) ?_
 try refine A2 ?_
 refine A0 (A8 rfl rfl rfl rfl rfl (A3 rfl rfl rfl (A9 rfl (kn rfl) (kn rfl) C8) .nil)) ?_
 try refine A2 ?_
 refine AE rfl (fun h1=>?_) (fun h1=>?_)
 ·have e:JY f g=CQ f.1 g.1:=F3 (by simpa using h1)
  try refine A2 ?_
  refine A0 (A8 rfl rfl rfl rfl rfl (AD rfl rfl rfl rfl rfl .nil)) ?_
  try refine A2 ?_
  exact A7 rfl rfl (.tmp (kn rfl) (.nil)) (Imp.of_eq (by rw[e];rfl)) rfl
 have e:JY f g=vcmp f.2 g.2:=EA (by simpa using h1)
 try refine A2 ?_
 refine A0 (A3 rfl rfl rfl (A4 rfl (kn rfl) off_44_1) (A3 rfl rfl rfl (AB (ds:=[_,_,_,_,_,_,_]) 7 rfl (kn rfl) rfl rfl agg_27 sz_27 rfl) (A3 rfl rfl rfl (A4 rfl (kn rfl) off_44_1) (A3 rfl rfl rfl (AB (ds:=[_,_,_,_,_,_,_]) 7 rfl (kn rfl) rfl rfl agg_27 sz_27 rfl) (A3 rfl rfl rfl (AG rfl (by kernel_rfl) (h) ⟨(kn rfl),⟨(kn rfl),trivial⟩⟩) (AD rfl rfl rfl rfl rfl .nil)))))) ?_
 try refine A2 ?_
 exact A7 rfl rfl (.tmp (kn rfl) (.nil)) (Imp.of_eq (by rw[e];rfl)) rfl
theorem KB(p q:Vl×Vl)(h:EF Try.prog [] 22 [.many (vd p.1),.many (vd q.1)] (.part (iP (vcmp p.1 q.1)))):EF Try.prog [] 31 [.many (pd p),.many (pd q)] (.part (iP (vcmp p.1 q.1))):=by
 refine AF 10 Try.func31 rfl rfl rfl fun w D=>?_
 try refine A2 ?_
 refine AI ?_
 refine BB 2 rfl rfl rfl rfl (kn rfl) rfl rfl rfl rfl ?_
 refine BB 3 rfl rfl rfl rfl (kn rfl) rfl rfl rfl rfl ?_
 refine CM ?_
 refine AN ?_
 try refine A2 ?_
 refine A0 (A3 rfl rfl rfl (A4 rfl (kn rfl) off_55_0) (A3 rfl rfl rfl (AB (ds:=[_,_,_,_,_,_,_]) 7 rfl (kn rfl) rfl rfl agg_27 sz_27 rfl) (A3 rfl rfl rfl (A4 rfl (kn rfl) off_55_0) (A3 rfl rfl rfl (AB (ds:=[_,_,_,_,_,_,_]) 7 rfl (kn rfl) rfl rfl agg_27 sz_27 rfl) (A3 rfl rfl rfl (AG rfl (by kernel_rfl) (h) ⟨(kn rfl),⟨(kn rfl),trivial⟩⟩) (AD rfl rfl rfl rfl rfl .nil)))))) ?_
 try refine A2 ?_
 exact A7 rfl rfl (.tmp (kn rfl) (.nil)) (Imp.of_eq rfl) rfl
theorem L4(p q:Vl×Vl)(hk:EF Try.prog [] 22 [.many (vd p.1),.many (vd q.1)] (.part (iP (vcmp p.1 q.1))))(h:EF Try.prog [] 22 [.many (vd p.2),.many (vd q.2)] (.part (iP (vcmp p.2 q.2)))):EF Try.prog [] 53 [.many (pd p),.many (pd q)] (.part (iP (L9 p q))):=by
 refine AF 17 Try.func53 rfl rfl rfl fun w D=>?_
 try refine A2 ?_
 refine AI ?_
 refine BB 2 rfl rfl rfl rfl (kn rfl) rfl rfl rfl rfl ?_
 refine BB 3 rfl rfl rfl rfl (kn rfl) rfl rfl rfl rfl ?_
 refine CM ?_
 refine AN ?_
 try refine A2 ?_
 refine A0 (A3 rfl rfl rfl (AB (ds:=[_,_,_,_,_,_,_,_,_,_,_,_,_,_]) 14 rfl (kn rfl) rfl rfl agg_55 sz_55 rfl) (A3 rfl rfl rfl (AB (ds:=[_,_,_,_,_,_,_,_,_,_,_,_,_,_]) 14 rfl (kn rfl) rfl rfl agg_55 sz_55 rfl) (A3 rfl rfl rfl (AG rfl (by kernel_rfl) (KB p q hk) ⟨(kn rfl),⟨(kn rfl),trivial⟩⟩) (AD rfl rfl rfl rfl rfl .nil)))) ?_
 try refine A2 ?_
 refine A0 (A8 rfl rfl rfl rfl rfl (A3 rfl rfl rfl (A9 rfl (kn rfl) (kn rfl) C8) .nil)) ?_
 try refine A2 ?_
 refine AE rfl (fun h1=>?_) (fun h1=>?_)
 ·have e:L9 p q=vcmp p.1 q.1:=F3 (by simpa using h1)
  try refine A2 ?_
  refine A0 (A8 rfl rfl rfl rfl rfl (AD rfl rfl rfl rfl rfl .nil)) ?_
  try refine A2 ?_
  exact A7 rfl rfl (.tmp (kn rfl) (.nil)) (Imp.of_eq (by rw[e];rfl)) rfl
 have e:L9 p q=vcmp p.2 q.2:=EA (by simpa using h1)
 try refine A2 ?_
 refine A0 (A3 rfl rfl rfl (A4 rfl (kn rfl) off_55_1) (A3 rfl rfl rfl (AB (ds:=[_,_,_,_,_,_,_]) 7 rfl (kn rfl) rfl rfl agg_27 sz_27 rfl) (A3 rfl rfl rfl (A4 rfl (kn rfl) off_55_1) (A3 rfl rfl rfl (AB (ds:=[_,_,_,_,_,_,_]) 7 rfl (kn rfl) rfl rfl agg_27 sz_27 rfl) (A3 rfl rfl rfl (AG rfl (by kernel_rfl) (h) ⟨(kn rfl),⟨(kn rfl),trivial⟩⟩) (AD rfl rfl rfl rfl rfl .nil)))))) ?_
 try refine A2 ?_
 exact A7 rfl rfl (.tmp (kn rfl) (.nil)) (Imp.of_eq (by rw[e];rfl)) rfl
def AU(v:Vl):Prop:=vnodes v<=1000000
theorem DJ{v:Vl}(h:AU v):v.fields.length<=1000000/\v.list.length<=1000000/\v.pairs.length<=1000000:=by
 have h0:vnodes v<=1000000:=h
 have h1:=HD v.fields
 have h2:=HJ v.list
 have h3:=I0 v.pairs
 have h4:=BV v
 omega
theorem E9{v:Vl}(h:AU v){f:Int×Vl}(hf:f∈v.fields):AU f.2:=by
 have h0:vnodes v<=1000000:=h
 have h1:=M0 hf
 have h4:=BV v
 show vnodes f.2<=1000000
 omega
theorem F1{v:Vl}(h:AU v){x:Vl}(hf:x∈v.list):AU x:=by
 have h0:vnodes v<=1000000:=h
 have h1:=HQ hf
 have h4:=BV v
 show vnodes x<=1000000
 omega
theorem BZ{v:Vl}(h:AU v){p:Vl×Vl}(hf:p∈v.pairs):AU p.1/\AU p.2:=by
 have h0:vnodes v<=1000000:=h
 have h1:=LY hf
 have h4:=BV v
 exact⟨show vnodes p.1<=1000000 by omega,show vnodes p.2<=1000000 by omega⟩
def LM(a:Vl):Prop:=∀ b:Vl,AU b->EF Try.prog [] 22 [.many (vd a),.many (vd b)] (.part (iP (vcmp a b)))
set_option maxHeartbeats 1000000 in
theorem I6(a:Vl)(ha:AU a)(hf:∀ f∈a.fields,LM f.2)(hl:∀ x∈a.list,LM x)(hp:∀ p∈a.pairs,LM p.1/\LM p.2):LM a:=by
 intro b hb
 obtain⟨a1,a2,a3⟩:=DJ ha
 obtain⟨b1,b2,b3⟩:=DJ hb
 have hF:=GM 50 (by kernel_rfl) JY a.fields b.fields a1 b1 fun x hx y hy=>KN x y (hf x hx y.2 (E9 hb hy))
 have hL:=IB 22 (by kernel_rfl) vcmp a.list b.list a2 b2 fun x hx y hy=>hl x hx y (F1 hb hy)
 have hP:=HG 53 (by kernel_rfl) L9 a.pairs b.pairs a3 b3 fun x hx y hy=>L4 x y ((hp x hx).1 y.1 (BZ hb hy).1) ((hp x hx).2 y.2 (BZ hb hy).2)
 rw[G7]at hF
 rw[IP]at hL
 rw[HF]at hP
 refine AF 59 Try.func22 rfl rfl rfl fun w D=>?_
 try refine A2 ?_
 refine AI ?_
 refine BB 2 rfl rfl rfl rfl (kn rfl) rfl rfl rfl rfl ?_
 refine BB 3 rfl rfl rfl rfl (kn rfl) rfl rfl rfl rfl ?_
 refine CM ?_
 refine AN ?_
 try refine A2 ?_
 refine A0 (A3 rfl rfl rfl (A4 rfl (kn rfl) off_27_0) (A3 rfl rfl rfl (A6 rfl (kn rfl) rfl rfl one_3) (A3 rfl rfl rfl (A4 rfl (kn rfl) off_27_0) (A3 rfl rfl rfl (A6 rfl (kn rfl) rfl rfl one_3) (A3 rfl rfl rfl (A9 rfl (kn rfl) (kn rfl) C8) .nil))))) ?_
 try refine A2 ?_
 refine AE rfl (fun h=>?_) (fun h=>?_)
 ·have hne:a.kind≠b.kind:=by simpa using h
  have e:vcmp a b=CQ a.kind b.kind:=by rw[FI,F3 (fun h0=>hne (IK h0))]
  try refine A2 ?_
  refine A0 (A3 rfl rfl rfl (A4 rfl (kn rfl) off_27_0) (A3 rfl rfl rfl (A6 rfl (kn rfl) rfl rfl one_3) (A3 rfl rfl rfl (A4 rfl (kn rfl) off_27_0) (A3 rfl rfl rfl (A6 rfl (kn rfl) rfl rfl one_3) (A3 rfl rfl rfl (AG rfl (by kernel_rfl) (HY a.kind b.kind) ⟨(kn rfl),⟨(kn rfl),trivial⟩⟩) (AD rfl rfl rfl rfl rfl .nil)))))) ?_
  try refine A2 ?_
  exact A7 rfl rfl (.tmp (kn rfl) (.nil)) (Imp.of_eq (by rw[e];rfl)) rfl
 have he:vcmp a b=body a.kind a b:=by rw[FI,EA (MD (by simpa using h))]
 clear h
 try refine A2 ?_
 refine A0 (A3 rfl rfl rfl (A4 rfl (kn rfl) off_27_0) (A3 rfl rfl rfl (A6 rfl (kn rfl) rfl rfl one_3) .nil)) ?_
 try refine A2 ?_
 try refine A2 ?_
 refine A0 (A3 rfl rfl rfl (A9 rfl (kn rfl) (kn rfl) AK) (AD rfl rfl rfl rfl rfl .nil)) ?_
 try refine A2 ?_
 refine AE rfl (fun q1=>?_) (fun q1=>?_)
 ·have e:vcmp a b=ncmp a.num b.num:=by rw[he];exact if_pos (of_decide_eq_true q1)
  try refine A2 ?_
  refine A0 (A3 rfl rfl rfl (A4 rfl (kn rfl) off_27_1) (A3 rfl rfl rfl (A6 rfl (kn rfl) rfl rfl one_22) (A3 rfl rfl rfl (A4 rfl (kn rfl) off_27_1) (A3 rfl rfl rfl (A6 rfl (kn rfl) rfl rfl one_22) (A3 rfl rfl rfl (AG rfl (by kernel_rfl) (LX a.num b.num) ⟨(kn rfl),⟨(kn rfl),trivial⟩⟩) (AD rfl rfl rfl rfl rfl .nil)))))) ?_
  try refine A2 ?_
  exact A7 rfl rfl (.tmp (kn rfl) (.nil)) (Imp.of_eq (by rw[e];rfl)) rfl
 have n1:=of_decide_eq_false q1
 try refine A2 ?_
 refine A0 (A3 rfl rfl rfl (A9 rfl (kn rfl) (kn rfl) AK) (AD rfl rfl rfl rfl rfl .nil)) ?_
 try refine A2 ?_
 refine AE rfl (fun q2=>?_) (fun q2=>?_)
 ·have e:vcmp a b=tcmp a.text b.text:=by rw[he];exact(if_neg n1).trans (if_pos (of_decide_eq_true q2))
  try refine A2 ?_
  refine A0 (A3 rfl rfl rfl (A4 rfl (kn rfl) off_27_2) (A3 rfl rfl rfl (A6 rfl (kn rfl) rfl rfl one_9) (A3 rfl rfl rfl (A4 rfl (kn rfl) off_27_2) (A3 rfl rfl rfl (A6 rfl (kn rfl) rfl rfl one_9) (A3 rfl rfl rfl (AG rfl (by kernel_rfl) (IY a.text b.text) ⟨(kn rfl),⟨(kn rfl),trivial⟩⟩) (AD rfl rfl rfl rfl rfl .nil)))))) ?_
  try refine A2 ?_
  exact A7 rfl rfl (.tmp (kn rfl) (.nil)) (Imp.of_eq (by rw[e];rfl)) rfl
 have n2:=of_decide_eq_false q2
 try refine A2 ?_
 refine A0 (A3 rfl rfl rfl (A9 rfl (kn rfl) (kn rfl) AK) (AD rfl rfl rfl rfl rfl .nil)) ?_
 try refine A2 ?_
 refine AE rfl (fun q3=>?_) (fun q3=>?_)
 ·have e:vcmp a b=lex (fcmp a.fields b.fields) (tcmp a.rest b.rest):=by rw[he];exact(if_neg n1).trans ((if_neg n2).trans (if_pos (of_decide_eq_true q3)))
  try refine A2 ?_
  refine BO C0 (by kernel_rfl) (A3 rfl rfl rfl (A4 rfl (kn rfl) off_27_3) (A3 rfl rfl rfl (A6 rfl (kn rfl) rfl rfl one_23) (A3 rfl rfl rfl (A4 rfl (kn rfl) off_27_3) (A3 rfl rfl rfl (A6 rfl (kn rfl) rfl rfl one_23) (A3 rfl rfl rfl (AG rfl (by kernel_rfl) (hF) ⟨(kn rfl),⟨(kn rfl),⟨(kn rfl),trivial⟩⟩⟩) (A3 rfl rfl rfl (A4 rfl (kn rfl) off_27_4) (A3 rfl rfl rfl (A6 rfl (kn rfl) rfl rfl one_9) (A3 rfl rfl rfl (A4 rfl (kn rfl) off_27_4) (A3 rfl rfl rfl (A6 rfl (kn rfl) rfl rfl one_9) (A3 rfl rfl rfl (AG rfl (by kernel_rfl) (IY a.rest b.rest) ⟨(kn rfl),⟨(kn rfl),trivial⟩⟩) (A3 rfl rfl rfl (JI (ds:=[_,_]) [(0,_),(1,_)] rfl ⟨rfl,(kn rfl),⟨rfl,(kn rfl),trivial⟩⟩ rfl sl_98 sz_3 zr_3 (fun w D=>.cons (.cell _) (.cons (.cell _) (.nil _ _))) rfl rfl rfl rfl rfl) (A3 rfl rfl rfl (AG rfl (by kernel_rfl) (PY (fcmp a.fields b.fields) (tcmp a.rest b.rest)) ⟨(kn rfl),trivial⟩) (AD rfl rfl rfl rfl rfl .nil))))))))))))) ?_
  try refine A2 ?_
  exact A7 rfl rfl (.tmp (kn rfl) (.nil)) (Imp.of_eq (by rw[e];rfl)) rfl
 have n3:=of_decide_eq_false q3
 try refine A2 ?_
 refine A0 (A3 rfl rfl rfl (A9 rfl (kn rfl) (kn rfl) AK) (AD rfl rfl rfl rfl rfl .nil)) ?_
 try refine A2 ?_
 refine AE rfl (fun q4=>?_) (fun q4=>?_)
 ·have e:vcmp a b=lcmp a.list b.list:=by rw[he];exact(if_neg n1).trans ((if_neg n2).trans ((if_neg n3).trans (if_pos (of_decide_eq_true q4))))
  try refine A2 ?_
  refine A0 (A3 rfl rfl rfl (A4 rfl (kn rfl) off_27_5) (A3 rfl rfl rfl (A6 rfl (kn rfl) rfl rfl one_24) (A3 rfl rfl rfl (A4 rfl (kn rfl) off_27_5) (A3 rfl rfl rfl (A6 rfl (kn rfl) rfl rfl one_24) (A3 rfl rfl rfl (AG rfl (by kernel_rfl) (hL) ⟨(kn rfl),⟨(kn rfl),⟨(kn rfl),trivial⟩⟩⟩) (AD rfl rfl rfl rfl rfl .nil)))))) ?_
  try refine A2 ?_
  exact A7 rfl rfl (.tmp (kn rfl) (.nil)) (Imp.of_eq (by rw[e];rfl)) rfl
 have n4:=of_decide_eq_false q4
 try refine A2 ?_
 refine A0 (A3 rfl rfl rfl (A9 rfl (kn rfl) (kn rfl) AK) (AD rfl rfl rfl rfl rfl .nil)) ?_
 try refine A2 ?_
 refine AE rfl (fun q5=>?_) (fun q5=>?_)
 ·have e:vcmp a b=pcmp a.pairs b.pairs:=by rw[he];exact(if_neg n1).trans ((if_neg n2).trans ((if_neg n3).trans ((if_neg n4).trans (if_pos (of_decide_eq_true q5)))))
  try refine A2 ?_
  refine A0 (A3 rfl rfl rfl (A4 rfl (kn rfl) off_27_6) (A3 rfl rfl rfl (A6 rfl (kn rfl) rfl rfl one_25) (A3 rfl rfl rfl (A4 rfl (kn rfl) off_27_6) (A3 rfl rfl rfl (A6 rfl (kn rfl) rfl rfl one_25) (A3 rfl rfl rfl (AG rfl (by kernel_rfl) (hP) ⟨(kn rfl),⟨(kn rfl),⟨(kn rfl),trivial⟩⟩⟩) (AD rfl rfl rfl rfl rfl .nil)))))) ?_
  try refine A2 ?_
  exact A7 rfl rfl (.tmp (kn rfl) (.nil)) (Imp.of_eq (by rw[e];rfl)) rfl
 have n5:=of_decide_eq_false q5
 have e:vcmp a b=0:=by rw[he];exact(if_neg n1).trans ((if_neg n2).trans ((if_neg n3).trans ((if_neg n4).trans (if_neg n5))))
 try refine A2 ?_
 refine A0 (AD rfl rfl rfl rfl rfl .nil) ?_
 try refine A2 ?_
 exact A7 rfl rfl (.tmp (kn rfl) (.nil)) (Imp.of_eq (by rw[e];rfl)) rfl
theorem EC(a:Vl)(ha:AU a):LM a:=by
 revert ha
 exact Vl.parts (P:=fun a=>AU a->LM a) (fun v hf hl hp ha=>I6 v ha (fun f h=>hf f h (E9 ha h)) (fun x h=>hl x h (F1 ha h)) (fun p h=>⟨(hp p h).1 (BZ ha h).1,(hp p h).2 (BZ ha h).2⟩)) a
theorem C6(a b:Vl)(ha:AU a)(hb:AU b):EF Try.prog [] 9 [.many (vd a),.many (vd b)] (.part (tP (decide (vcmp a b=0)))):=by
 refine AF 9 Try.func9 rfl rfl rfl fun w D=>?_
 try refine A2 ?_
 refine AI ?_
 refine BB 2 rfl rfl rfl rfl (kn rfl) rfl rfl rfl rfl ?_
 refine BB 3 rfl rfl rfl rfl (kn rfl) rfl rfl rfl rfl ?_
 refine CM ?_
 refine AN ?_
 try refine A2 ?_
 refine A0 (A3 rfl rfl rfl (AB (ds:=[_,_,_,_,_,_,_]) 7 rfl (kn rfl) rfl rfl agg_27 sz_27 rfl) (A3 rfl rfl rfl (AB (ds:=[_,_,_,_,_,_,_]) 7 rfl (kn rfl) rfl rfl agg_27 sz_27 rfl) (A3 rfl rfl rfl (AG rfl (by kernel_rfl) (EC a ha b hb) ⟨(kn rfl),⟨(kn rfl),trivial⟩⟩) (A3 rfl rfl rfl (A9 rfl (kn rfl) (kn rfl) AK) (AD rfl rfl rfl rfl rfl .nil))))) ?_
 try refine A2 ?_
 exact A7 rfl rfl (.tmp (kn rfl) (.nil)) (Imp.of_eq rfl) rfl
section
open Go
def B3{α:Type}(c:α->α->Int):List α->Bool
 | []=>true
 | [_]=>true
 | x::y::l=>decide (c x y<0)&&B3 c (y::l)
def E6(v:Vl):Bool:=
 (decide (v.kind=1)||decide (v.num=0))&&(decide (v.kind=2)||decide (v.text=[]))&&(decide (v.kind=3)||decide (v.fields=[]))&&(decide (v.kind=3)||decide (v.rest=[]))&&(decide (v.kind=4)||decide (v.list=[]))&&(decide (v.kind=5)||decide (v.pairs=[]))
def NR(n:Int):Bool:=decide (1<=n)&&decide (n<=536870911)
def fok(f:Int×Vl):Bool:=NR f.1 && !decide (f.2.kind=0)&&vright f.2
def ES(x:Vl):Bool:=decide (1<=x.kind)&&decide (x.kind<=3)&&vright x
def pok(k:Int)(p:Vl×Vl):Bool:=decide (p.1.kind=k)&&(vright p.1&&ES p.2)
def GG(f g:Int×Vl):Int:=CQ f.1 g.1
def IN(p q:Vl×Vl):Int:=vcmp p.1 q.1
def CG:List (Vl×Vl)->Bool
 | []=>false
 | p::ps=>(decide (p.1.kind=1)||decide (p.1.kind=2))&&((p::ps).all (pok p.1.kind)&&B3 IN (p::ps))
theorem J8(a b:Int):CQ a b<0↔a<b:=by
 unfold CQ
 repeat' split
 all_goals omega
theorem ED:∀ (fs:List (Int×Vl)) (p:Int),fright p fs=(fs.all fok&&(match fs with | []=>true | f::_=>decide (p<f.1))&&B3 GG fs)
 | [],p=>by simp[fright,B3]
 | [(n,x)],p=>by
  rw[fright,ED [] n,Bool.eq_iff_iff]
  simp only[List.all_cons,List.all_nil,B3,fok,NR,Bool.and_eq_true,Bool.not_eq_true',decide_eq_true_eq,decide_eq_false_iff_not,and_true,ne_eq,true_and]
  constructor
  ·rintro⟨⟨⟨⟨a,b⟩,c⟩,d⟩,e⟩
   exact⟨⟨⟨⟨a,b⟩,d⟩,e⟩,c⟩
  ·rintro⟨⟨⟨⟨a,b⟩,d⟩,e⟩,c⟩
   exact⟨⟨⟨⟨a,b⟩,c⟩,d⟩,e⟩
 | (n,x)::(m,y)::fs,p=>by
  rw[fright,ED ((m,y)::fs) n,Bool.eq_iff_iff,B3,show((n,x)::(m,y)::fs).all fok=(fok (n,x)&&((m,y)::fs).all fok) from rfl,show GG (n,x) (m,y)=CQ n m from rfl]
  generalize((m,y)::fs).all fok=A
  generalize B3 GG ((m,y)::fs)=G
  simp only[fok,NR,J8,Bool.and_eq_true,Bool.not_eq_true',decide_eq_true_eq,decide_eq_false_iff_not,ne_eq]
  constructor
  ·rintro⟨⟨⟨⟨⟨a,b⟩,c⟩,d⟩,e⟩,⟨f,g⟩,h⟩
   exact⟨⟨⟨⟨⟨⟨a,b⟩,d⟩,e⟩,f⟩,c⟩,g,h⟩
  ·rintro⟨⟨⟨⟨⟨⟨a,b⟩,d⟩,e⟩,f⟩,c⟩,g,h⟩
   exact⟨⟨⟨⟨⟨a,b⟩,c⟩,d⟩,e⟩,⟨f,g⟩,h⟩
theorem GU(x:Vl):vone x=(decide (1<=x.kind)&&decide (x.kind<=3)):=by
 rw[Bool.eq_iff_iff]
 unfold vone
 simp only[Bool.or_eq_true,Bool.and_eq_true,decide_eq_true_eq]
 omega
theorem GB:∀ ls:List Vl,lright ls=ls.all ES
 | []=>by simp[lright]
 | x::ls=>by rw[lright,GB ls,List.all_cons,GU];rfl
theorem D6(k:Int)(hk:k=1\/k=2):∀ (ps:List (Vl×Vl)) (q:Vl×Vl),q.1.kind=k->pright (some q.1) ps=(ps.all (pok k)&&B3 IN (q::ps))
 | [],q,_=>by simp[pright,B3]
 | (a,x)::ps,q,hq=>by
  rw[pright,B3,List.all_cons,Bool.eq_iff_iff,show IN q (a,x)=vcmp q.1 a from rfl]
  simp only[GU,pok,ES,Bool.and_eq_true,decide_eq_true_eq]
  constructor
  ·rintro⟨⟨⟨⟨⟨⟨_,_⟩,c⟩,d⟩,e⟩,f,g⟩,h⟩
   have hak:a.kind=k:=by omega
   rw[D6 k hk ps (a,x) hak]at h
   simp only[Bool.and_eq_true]at h
   exact⟨⟨⟨hak,c,d,e⟩,h.1⟩,g,h.2⟩
  ·rintro⟨⟨⟨hak,c,d,e⟩,h⟩,g,i⟩
   rw[D6 k hk ps (a,x) hak]
   simp only[Bool.and_eq_true]
   exact⟨⟨⟨⟨⟨⟨by omega,by omega,by omega⟩,c⟩,d⟩,e⟩,by omega,g⟩,h,i⟩
theorem KA:∀ ps:List (Vl×Vl),pright none ps=(decide (ps=[])||CG ps)
 | []=>by simp[pright]
 | (a,x)::ps=>by
  rw[pright,CG,List.all_cons,Bool.eq_iff_iff]
  simp only[GU,pok,ES,Bool.and_eq_true,Bool.or_eq_true,decide_eq_true_eq,and_true,true_and,reduceCtorEq,false_or]
  constructor
  ·rintro⟨⟨⟨⟨⟨a1,a2,a3⟩,c⟩,d⟩,e⟩,h⟩
   have hk:a.kind=1\/a.kind=2:=by omega
   rw[D6 a.kind hk ps (a,x) rfl]at h
   simp only[Bool.and_eq_true]at h
   exact⟨hk,⟨⟨c,d,e⟩,h.1⟩,h.2⟩
  ·rintro⟨hk,⟨⟨c,d,e⟩,h⟩,i⟩
   rw[D6 a.kind hk ps (a,x) rfl]
   simp only[Bool.and_eq_true]
   exact⟨⟨⟨⟨⟨by omega,by omega,by omega⟩,c⟩,d⟩,e⟩,h,i⟩
def EH(v:Vl):Bool:=
 E6 v&&(if v.kind=0\/v.kind=1\/v.kind=2 then true else if v.kind=3 then v.fields.all fok&&B3 GG v.fields else if v.kind=4 then decide (v.list≠[])&&v.list.all ES else if v.kind=5 then CG v.pairs else false)
theorem JZ(v:Vl):vright v=EH v:=by
 rw[N7,ED,GB,KA,Bool.eq_iff_iff]
 have hf:(v.fields.all fok=true)->(match v.fields with | []=>true | f::_=>decide (0<f.1))=true:=fun h=>by
  revert h
  cases v.fields with
  | nil=>exact fun _=>rfl
  | cons f fs=>
   intro h
   simp only[List.all_cons,fok,NR,Bool.and_eq_true,decide_eq_true_eq]at h ⊢
   omega
 simp only[Bool.and_eq_true,LJ,Bool.or_eq_true,decide_eq_true_eq]
 unfold EH E6
 simp only[Bool.and_eq_true,Bool.or_eq_true,decide_eq_true_eq]
 constructor
 ·rintro⟨⟨⟨⟨h0,h5,hn,ht,hfr,hl,hp⟩,⟨f1,f2⟩,f3⟩,l1⟩,p1⟩
  refine⟨⟨⟨⟨⟨⟨?_,?_⟩,?_⟩,?_⟩,?_⟩,?_⟩,?_⟩
  ·by_cases h:v.kind=1
   ·exact .inl h
   ·exact .inr (hn h)
  ·by_cases h:v.kind=2
   ·exact .inl h
   ·exact .inr (ht h)
  ·by_cases h:v.kind=3
   ·exact .inl h
   ·exact .inr (hfr h).1
  ·by_cases h:v.kind=3
   ·exact .inl h
   ·exact .inr (hfr h).2
  ·by_cases h:v.kind=4
   ·exact .inl h
   ·exact .inr (Decidable.not_not.1 fun q=>h (hl.2 q))
  ·by_cases h:v.kind=5
   ·exact .inl h
   ·exact .inr (Decidable.not_not.1 fun q=>h (hp.2 q))
  ·rcases(show v.kind=0\/v.kind=1\/v.kind=2\/v.kind=3\/v.kind=4\/v.kind=5 by omega)with h | h | h | h | h | h
   ·rw[if_pos (by omega)]
   ·rw[if_pos (by omega)]
   ·rw[if_pos (by omega)]
   ·rw[if_neg (by omega),if_pos h,f1,f3];rfl
   ·rw[if_neg (by omega),if_neg (by omega),if_pos h,l1,Bool.and_true]
    exact decide_eq_true (hl.1 h)
   ·rw[if_neg (by omega),if_neg (by omega),if_neg (by omega),if_pos h]
    exact p1.resolve_left (hp.1 h)
 ·rintro⟨⟨⟨⟨⟨⟨b1,b2⟩,b3⟩,b4⟩,b5⟩,b6⟩,hs⟩
  have hk:v.kind=0\/v.kind=1\/v.kind=2\/v.kind=3\/v.kind=4\/v.kind=5:=Decidable.byContradiction fun hno=>by
   rw[if_neg (by omega),if_neg (by omega),if_neg (by omega),if_neg (by omega)]at hs
   cases hs
  have hl:v.kind=4↔v.list≠[]:=⟨fun h=>by
   rw[if_neg (by omega),if_neg (by omega),if_pos h]at hs
   simp only[Bool.and_eq_true,decide_eq_true_eq]at hs
   exact hs.1,fun h=>b5.resolve_right h⟩
  have hp:v.kind=5↔v.pairs≠[]:=⟨fun h e=>by
   rw[if_neg (by omega),if_neg (by omega),if_neg (by omega),if_pos h,e]at hs
   exact absurd hs (by decide),fun h=>b6.resolve_right h⟩
  have h3:v.kind=3->v.fields.all fok=true/\B3 GG v.fields=true:=fun h=>by
   rw[if_neg (by omega),if_pos h]at hs
   simpa only[Bool.and_eq_true]using hs
  have hff:v.fields.all fok=true/\B3 GG v.fields=true:=by
   by_cases h:v.kind=3
   ·exact h3 h
   ·rw[b3.resolve_left h];exact⟨rfl,rfl⟩
  have hll:v.list.all ES=true:=by
   by_cases h:v.kind=4
   ·rw[if_neg (by omega),if_neg (by omega),if_pos h]at hs
    simp only[Bool.and_eq_true]at hs
    exact hs.2
   ·rw[b5.resolve_left h];rfl
  have hpp:v.pairs=[]\/CG v.pairs=true:=by
   by_cases h:v.kind=5
   ·rw[if_neg (by omega),if_neg (by omega),if_neg (by omega),if_pos h]at hs
    exact .inr hs
   ·exact .inl (b6.resolve_left h)
  exact⟨⟨⟨⟨by omega,by omega,fun h=>b1.resolve_left h,fun h=>b2.resolve_left h,fun h=>⟨b3.resolve_left h,b4.resolve_left h⟩,hl,hp⟩,⟨hff.1,hf hff.1⟩,hff.2⟩,hll⟩,hpp⟩
end
end Go.Proofs.Ytojdpgeeajaojaa
