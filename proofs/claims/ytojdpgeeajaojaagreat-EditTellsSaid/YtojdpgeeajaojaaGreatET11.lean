/- Part 11. Conditions: as each theorem says. -/
import Derived.Test.YtojdpgeeajaojaaGreatET10
import Derived.Test.YtojdpgeeajaojaaGreatProg
set_option maxRecDepth 100000
namespace Go.Proofs.YtojdpgeeajaojaaGreat
open Go.RowKit
def vd(v:Vl):List Dat:=[.cell (.int .i64 v.kind),.cell (.int .u64 (v.num:Int)),.cell (.string (str v.text)),.row 8 v.fields.length (v.fields.flatMap fieldDats),.cell (.string (str v.rest)),.row 7 v.list.length (v.list.flatMap Vl.dats),.row 14 v.pairs.length (v.pairs.flatMap pairDats)]
theorem CB(v:Vl):v.dats=vd v:=v.dats_eq
theorem B6(f:Int×Vl):fieldDats f=.cell (.int .i64 f.1)::vd f.2:=by unfold fieldDats;rw[CB]
theorem BA(p:Vl×Vl):pairDats p=vd p.1++vd p.2:=by unfold pairDats;rw[CB,CB]
abbrev iP(z:Int):Part:=.one (.cell (.int .i64 z))
abbrev uP(n:Nat):Part:=.one (.cell (.int .u64 (n:Int)))
abbrev sP(l:List UInt8):Part:=.one (.cell (.string (str l)))
abbrev tP(b:Bool):Part:=.one (.cell (.bool b))
theorem HF{a b:Nat}(h:a<b):ncmp a b = -1:=if_pos h
theorem HJ{a b:Nat}(h:b<a):ncmp a b=1:=(if_neg (by omega)).trans (if_pos h)
theorem HG{a b:Nat}(h:a=b):ncmp a b=0:=(if_neg (by omega)).trans (if_neg (by omega))
theorem MC{a b:Int}(h:a<b):DT a b = -1:=if_pos h
theorem M3{a b:Int}(h:b<a):DT a b=1:=(if_neg (by omega)).trans (if_pos h)
theorem J9{a b:Int}(h:a=b):DT a b=0:=(if_neg (by omega)).trans (if_neg (by omega))
theorem CL{x y:Int}(h:x≠0):lex x y=x:=if_pos h
theorem D8{x y:Int}(h:x=0):lex x y=y:=if_neg (by omega)
theorem FF(a b:Nat):EF Tryz.prog [] 47 [uP a,uP b] (.part (iP (ncmp a b))):=by
 refine AG 11 Tryz.func47 rfl rfl rfl fun w D=>?_
 try refine A3 ?_
 refine A2 (AC rfl rfl rfl rfl rfl .nil) ?_
 try refine A3 ?_
 refine A2 (A9 rfl rfl rfl rfl rfl (A9 rfl rfl rfl rfl rfl (A4 rfl rfl rfl (A6 rfl (kn rfl) (kn rfl) AY) .nil))) ?_
 try refine A3 ?_
 refine AB rfl (fun h=>?_) (fun h=>?_)
 ·have e:ncmp a b = -1:=HF (by have:=of_decide_eq_true h;omega)
  try refine A3 ?_
  refine A2 (AC rfl rfl rfl rfl rfl .nil) ?_
  try refine A3 ?_
  exact A8 rfl rfl (.tmp (kn rfl) (.nil)) (Imp.of_eq (by rw[e];rfl)) rfl
 try refine A3 ?_
 refine A2 (A9 rfl rfl rfl rfl rfl (A9 rfl rfl rfl rfl rfl (A4 rfl rfl rfl (A6 rfl (kn rfl) (kn rfl) BN) .nil))) ?_
 try refine A3 ?_
 refine AB rfl (fun h2=>?_) (fun h2=>?_)
 ·have e:ncmp a b=1:=HJ (by have:=of_decide_eq_true h2;omega)
  try refine A3 ?_
  refine A2 (AC rfl rfl rfl rfl rfl .nil) ?_
  try refine A3 ?_
  exact A8 rfl rfl (.tmp (kn rfl) (.nil)) (Imp.of_eq (by rw[e];rfl)) rfl
 have e:ncmp a b=0:=HG (by have:=of_decide_eq_false h;have:=of_decide_eq_false h2;omega)
 try refine A3 ?_
 refine A2 (AC rfl rfl rfl rfl rfl .nil) ?_
 try refine A3 ?_
 exact A8 rfl rfl (.tmp (kn rfl) (.nil)) (Imp.of_eq (by rw[e];rfl)) rfl
theorem O1(a b:List UInt8):EF Tryz.prog [] 48 [sP a,sP b] (.part (iP (tcmp a b))):=by
 have hin:=M0 a b
 refine AG 11 Tryz.func48 rfl rfl rfl fun w D=>?_
 try refine A3 ?_
 refine A2 (AC rfl rfl rfl rfl rfl .nil) ?_
 try refine A3 ?_
 refine A2 (A9 rfl rfl rfl rfl rfl (A9 rfl rfl rfl rfl rfl (A4 rfl rfl rfl (A6 rfl (kn rfl) (kn rfl) (UE)) .nil))) ?_
 try refine A3 ?_
 refine AB rfl (fun h=>?_) (fun h=>?_)
 ·have e:tcmp a b = -1:=by have:=of_decide_eq_true h;omega
  try refine A3 ?_
  refine A2 (AC rfl rfl rfl rfl rfl .nil) ?_
  try refine A3 ?_
  exact A8 rfl rfl (.tmp (kn rfl) (.nil)) (Imp.of_eq (by rw[e];rfl)) rfl
 try refine A3 ?_
 refine A2 (A9 rfl rfl rfl rfl rfl (A9 rfl rfl rfl rfl rfl (A4 rfl rfl rfl (A6 rfl (kn rfl) (kn rfl) (UJ)) .nil))) ?_
 try refine A3 ?_
 refine AB rfl (fun h2=>?_) (fun h2=>?_)
 ·have e:tcmp a b=1:=by have:=of_decide_eq_true h2;omega
  try refine A3 ?_
  refine A2 (AC rfl rfl rfl rfl rfl .nil) ?_
  try refine A3 ?_
  exact A8 rfl rfl (.tmp (kn rfl) (.nil)) (Imp.of_eq (by rw[e];rfl)) rfl
 have e:tcmp a b=0:=by have:=of_decide_eq_false h;have:=of_decide_eq_false h2;omega
 try refine A3 ?_
 refine A2 (AC rfl rfl rfl rfl rfl .nil) ?_
 try refine A3 ?_
 exact A8 rfl rfl (.tmp (kn rfl) (.nil)) (Imp.of_eq (by rw[e];rfl)) rfl
def P9(f:FuncId)(a:Vl):Prop:=∀ b:Vl,b.Fine->EF Tryz.prog [] f [.many (vd a),.many (vd b)] (.part (iP (vcmp a b)))
set_option maxHeartbeats 4000000 in
theorem RK(a:Vl)(ha:a.Fine)(hf:∀ f∈a.fields,P9 25 f.2)(hl:∀ x∈a.list,P9 25 x)(hp:∀ p∈a.pairs,P9 25 p.1/\P9 25 p.2):P9 25 a:=by
 intro b hb
 refine AG 210 Tryz.func25 rfl rfl rfl fun w D=>?_
 try refine A3 ?_
 have hmax:maxLen<=9223372036854775807:=by decide
 obtain⟨a1,a2,a3,a4,a5,a6,a7,a8⟩:=ha.bounds
 obtain⟨b1,b2,b3,b4,b5,b6,b7,b8⟩:=hb.bounds
 refine AI ?_
 refine B9 2 rfl rfl rfl rfl (kn rfl) rfl rfl rfl rfl ?_
 refine B9 3 rfl rfl rfl rfl (kn rfl) rfl rfl rfl rfl ?_
 refine BX ?_
 refine AM ?_
 try refine A3 ?_
 refine A2 (A4 rfl rfl rfl (A1 rfl (kn rfl) off_39_0) (A4 rfl rfl rfl (A5 rfl (kn rfl) rfl rfl one_3) (A4 rfl rfl rfl (A1 rfl (kn rfl) off_39_0) (A4 rfl rfl rfl (A5 rfl (kn rfl) rfl rfl one_3) (A4 rfl rfl rfl (A6 rfl (kn rfl) (kn rfl) AY) .nil))))) ?_
 try refine A3 ?_
 refine AB rfl (fun h=>?_) (fun h=>?_)
 ·have g:=MC (of_decide_eq_true h)
  have e:vcmp a b = -1:=by rw[EJ,CL (by rw[g];decide),g]
  try refine A3 ?_
  refine A2 (AC rfl rfl rfl rfl rfl .nil) ?_
  try refine A3 ?_
  exact A8 rfl rfl (.tmp (kn rfl) (.nil)) (Imp.of_eq (by rw[e];rfl)) rfl
 try refine A3 ?_
 refine A2 (A4 rfl rfl rfl (A1 rfl (kn rfl) off_39_0) (A4 rfl rfl rfl (A5 rfl (kn rfl) rfl rfl one_3) (A4 rfl rfl rfl (A1 rfl (kn rfl) off_39_0) (A4 rfl rfl rfl (A5 rfl (kn rfl) rfl rfl one_3) (A4 rfl rfl rfl (A6 rfl (kn rfl) (kn rfl) BN) .nil))))) ?_
 try refine A3 ?_
 refine AB rfl (fun h2=>?_) (fun h2=>?_)
 ·have g:=M3 (of_decide_eq_true h2)
  have e:vcmp a b=1:=by rw[EJ,CL (by rw[g];decide),g]
  try refine A3 ?_
  refine A2 (AC rfl rfl rfl rfl rfl .nil) ?_
  try refine A3 ?_
  exact A8 rfl rfl (.tmp (kn rfl) (.nil)) (Imp.of_eq (by rw[e];rfl)) rfl
 have he:vcmp a b=body a.kind a b:=by rw[EJ,D8 (J9 (by have:=of_decide_eq_false h;have:=of_decide_eq_false h2;omega))]
 clear h h2
 try refine A3 ?_
 refine A2 (A4 rfl rfl rfl (A1 rfl (kn rfl) off_39_0) (A4 rfl rfl rfl (A5 rfl (kn rfl) rfl rfl one_3) .nil)) ?_
 try refine A3 ?_
 try refine A3 ?_
 refine A2 (A4 rfl rfl rfl (A6 rfl (kn rfl) (kn rfl) AP) (AC rfl rfl rfl rfl rfl .nil)) ?_
 try refine A3 ?_
 refine AB rfl (fun q1=>?_) (fun q1=>?_)
 ·have e:vcmp a b=ncmp a.num b.num:=by rw[he];exact if_pos (of_decide_eq_true q1)
  try refine A3 ?_
  refine A2 (A4 rfl rfl rfl (A1 rfl (kn rfl) off_39_1) (A4 rfl rfl rfl (A5 rfl (kn rfl) rfl rfl one_22) (A4 rfl rfl rfl (A1 rfl (kn rfl) off_39_1) (A4 rfl rfl rfl (A5 rfl (kn rfl) rfl rfl one_22) (A4 rfl rfl rfl (AD rfl (by kernel_rfl) (FF a.num b.num) ⟨(kn rfl),⟨(kn rfl),trivial⟩⟩) (AC rfl rfl rfl rfl rfl .nil)))))) ?_
  try refine A3 ?_
  exact A8 rfl rfl (.tmp (kn rfl) (.nil)) (Imp.of_eq (by rw[e];rfl)) rfl
 have n1:=of_decide_eq_false q1
 try refine A3 ?_
 refine A2 (A4 rfl rfl rfl (A6 rfl (kn rfl) (kn rfl) AP) (AC rfl rfl rfl rfl rfl .nil)) ?_
 try refine A3 ?_
 refine AB rfl (fun q2=>?_) (fun q2=>?_)
 ·have e:vcmp a b=tcmp a.text b.text:=by rw[he];exact(if_neg n1).trans (if_pos (of_decide_eq_true q2))
  try refine A3 ?_
  refine A2 (A4 rfl rfl rfl (A1 rfl (kn rfl) off_39_2) (A4 rfl rfl rfl (A5 rfl (kn rfl) rfl rfl one_9) (A4 rfl rfl rfl (A1 rfl (kn rfl) off_39_2) (A4 rfl rfl rfl (A5 rfl (kn rfl) rfl rfl one_9) (A4 rfl rfl rfl (AD rfl (by kernel_rfl) (O1 a.text b.text) ⟨(kn rfl),⟨(kn rfl),trivial⟩⟩) (AC rfl rfl rfl rfl rfl .nil)))))) ?_
  try refine A3 ?_
  exact A8 rfl rfl (.tmp (kn rfl) (.nil)) (Imp.of_eq (by rw[e];rfl)) rfl
 have n2:=of_decide_eq_false q2
 try refine A3 ?_
 refine A2 (A4 rfl rfl rfl (A6 rfl (kn rfl) (kn rfl) AP) (AC rfl rfl rfl rfl rfl .nil)) ?_
 try refine A3 ?_
 refine AB rfl (fun q3=>?_) (fun q3=>?_)
 ·have e:vcmp a b=lex (fcmp a.fields b.fields) (tcmp a.rest b.rest):=by rw[he];exact(if_neg n1).trans ((if_neg n2).trans (if_pos (of_decide_eq_true q3)))
  try refine A3 ?_
  refine A2 (AC rfl rfl rfl rfl rfl .nil) ?_
  try refine A3 ?_
  refine AX (ι:={ k:Nat // k<=(a.fields).length/\k<=(b.fields).length/\fcmp ((a.fields).drop k) ((b.fields).drop k)=fcmp (a.fields) (b.fields) })
   (fun k=>[(2,.box 2 0),(3,.box 3 0),(5,.is (.int .i64 (k.1:Int)))])
   (fun _=>[(2,⟨39,bcs (vd a)⟩),(3,⟨39,bcs (vd b)⟩)]) (fun _=>[]) (fun k=>(a.fields).length-k.1) ⟨0,by omega,by omega,by simp⟩
   (fun K=>AL ⟨s_t,s_t,s_t,trivial⟩ ⟨s_b,s_b,trivial⟩ trivial) ?_
  rintro⟨k,hk,hk2,hw⟩
  dsimp only at hk hk2 hw ⊢
  try refine A3 ?_
  refine A2 (A9 rfl rfl rfl rfl rfl (A4 rfl rfl rfl (A1 rfl (kn rfl) off_39_3) (A4 rfl rfl rfl (A5 rfl (kn rfl) rfl rfl one_35) (A4 rfl rfl rfl (AR rfl (kn rfl) sle_35) (A4 rfl rfl rfl (A6 rfl (kn rfl) (kn rfl) AY) (A9 rfl rfl rfl rfl rfl (Walk.gd _ rfl rfl rfl (fun h=>AN rfl (kn rfl)) (Walk.gd _ rfl rfl rfl (fun h=>A1 rfl (kn rfl) off_39_3) (Walk.gd _ rfl rfl rfl (fun h=>A5 rfl (A0 rfl h) rfl rfl one_35) (Walk.gd _ rfl rfl rfl (fun h=>AR rfl (A0 rfl h) sle_35) (Walk.gd _ rfl rfl rfl (fun h=>A6 rfl (A0 rfl h) (A0 rfl h) AY) (A4 rfl rfl rfl (AO rfl (kn rfl) (fun hb=>A0 rfl hb)) .nil)))))))))))) ?_
  try refine A3 ?_
  refine AB rfl (fun h=>?_) (fun h=>?_)
  ·have hlt:k<(a.fields).length/\k<(b.fields).length:=by simpa using h
   obtain⟨x,hx⟩:∃ x,(a.fields)[k]?=some x:=⟨_,List.getElem?_eq_getElem hlt.1⟩
   obtain⟨y,hy⟩:∃ y,(b.fields)[k]?=some y:=⟨_,List.getElem?_eq_getElem hlt.2⟩
   rw[BC hx,BC hy,GE]at hw
   try refine A3 ?_
   refine BD BF (by kernel_rfl) (A4 rfl rfl rfl (A1 rfl (kn rfl) off_39_3) (A4 rfl rfl rfl (A5 rfl (kn rfl) rfl rfl one_35) (A9 rfl rfl rfl rfl rfl (A4 rfl rfl rfl (AJ rfl (kn rfl) (kn rfl) (by omega) hx B3 sle_35 esz_35 (B6 x)) (A4 rfl rfl rfl (AA rfl (kn rfl) off_81_0) (A4 rfl rfl rfl (AF rfl (kn rfl) one_3) (A4 rfl rfl rfl (A1 rfl (kn rfl) off_39_3) (A4 rfl rfl rfl (A5 rfl (kn rfl) rfl rfl one_35) (A9 rfl rfl rfl rfl rfl (A4 rfl rfl rfl (AJ rfl (kn rfl) (kn rfl) (by omega) hy B3 sle_35 esz_35 (B6 y)) (A4 rfl rfl rfl (AA rfl (kn rfl) off_81_0) (A4 rfl rfl rfl (AF rfl (kn rfl) one_3) (A4 rfl rfl rfl (A6 rfl (kn rfl) (kn rfl) AY) .nil))))))))))))) ?_
   try refine A3 ?_
   refine AB rfl (fun h=>?_) (fun h=>?_)
   ·have g:=MC (of_decide_eq_true h)
    rw[CL (by rw[g];decide),g]at hw
    rw[<- hw,CL (by decide)]at e
    try refine A3 ?_
    refine A2 (AC rfl rfl rfl rfl rfl .nil) ?_
    try refine A3 ?_
    exact A8 rfl rfl (.tmp (kn rfl) (.nil)) (Imp.of_eq (by rw[e];rfl)) rfl
   try refine A3 ?_
   refine BD BF (by kernel_rfl) (A4 rfl rfl rfl (A1 rfl (kn rfl) off_39_3) (A4 rfl rfl rfl (A5 rfl (kn rfl) rfl rfl one_35) (A9 rfl rfl rfl rfl rfl (A4 rfl rfl rfl (AJ rfl (kn rfl) (kn rfl) (by omega) hx B3 sle_35 esz_35 (B6 x)) (A4 rfl rfl rfl (AA rfl (kn rfl) off_81_0) (A4 rfl rfl rfl (AF rfl (kn rfl) one_3) (A4 rfl rfl rfl (A1 rfl (kn rfl) off_39_3) (A4 rfl rfl rfl (A5 rfl (kn rfl) rfl rfl one_35) (A9 rfl rfl rfl rfl rfl (A4 rfl rfl rfl (AJ rfl (kn rfl) (kn rfl) (by omega) hy B3 sle_35 esz_35 (B6 y)) (A4 rfl rfl rfl (AA rfl (kn rfl) off_81_0) (A4 rfl rfl rfl (AF rfl (kn rfl) one_3) (A4 rfl rfl rfl (A6 rfl (kn rfl) (kn rfl) BN) .nil))))))))))))) ?_
   try refine A3 ?_
   refine AB rfl (fun h2=>?_) (fun h2=>?_)
   ·have g:=M3 (of_decide_eq_true h2)
    rw[CL (by rw[g];decide),g]at hw
    rw[<- hw,CL (by decide)]at e
    try refine A3 ?_
    refine A2 (AC rfl rfl rfl rfl rfl .nil) ?_
    try refine A3 ?_
    exact A8 rfl rfl (.tmp (kn rfl) (.nil)) (Imp.of_eq (by rw[e];rfl)) rfl
   rw[D8 (J9 (by have:=of_decide_eq_false h;have:=of_decide_eq_false h2;omega))]at hw
   try refine A3 ?_
   refine BD BF (by kernel_rfl) (A4 rfl rfl rfl (A1 rfl (kn rfl) off_39_3) (A4 rfl rfl rfl (A5 rfl (kn rfl) rfl rfl one_35) (A9 rfl rfl rfl rfl rfl (A4 rfl rfl rfl (AJ rfl (kn rfl) (kn rfl) (by omega) hx B3 sle_35 esz_35 (B6 x)) (A4 rfl rfl rfl (AA rfl (kn rfl) off_81_1) (A4 rfl rfl rfl (AH rfl (kn rfl) agg_39 sz_39) (A4 rfl rfl rfl (A1 rfl (kn rfl) off_39_3) (A4 rfl rfl rfl (A5 rfl (kn rfl) rfl rfl one_35) (A9 rfl rfl rfl rfl rfl (A4 rfl rfl rfl (AJ rfl (kn rfl) (kn rfl) (by omega) hy B3 sle_35 esz_35 (B6 y)) (A4 rfl rfl rfl (AA rfl (kn rfl) off_81_1) (A4 rfl rfl rfl (AH rfl (kn rfl) agg_39 sz_39) (A4 rfl rfl rfl (AD rfl (by kernel_rfl) (hf x (List.mem_of_getElem? hx) y.2 (hb.field (List.mem_of_getElem? hy)).2) ⟨(kn rfl),⟨(kn rfl),trivial⟩⟩) (AC rfl rfl rfl rfl rfl .nil)))))))))))))) ?_
   try refine A3 ?_
   refine A2 (A9 rfl rfl rfl rfl rfl (A4 rfl rfl rfl (A6 rfl (kn rfl) (kn rfl) BI) .nil)) ?_
   try refine A3 ?_
   refine AB rfl (fun h3=>?_) (fun h3=>?_)
   ·have g:vcmp x.2 y.2≠0:=by simpa using h3
    rw[CL g]at hw
    rw[<- hw,CL g]at e
    try refine A3 ?_
    refine A2 (A9 rfl rfl rfl rfl rfl (AC rfl rfl rfl rfl rfl .nil)) ?_
    try refine A3 ?_
    exact A8 rfl rfl (.tmp (kn rfl) (.nil)) (Imp.of_eq (by rw[e];rfl)) rfl
   rw[D8 (by simpa using h3)]at hw
   try refine A3 ?_
   refine A2 (A9 rfl rfl rfl rfl rfl (A4 rfl rfl rfl (A6 rfl (kn rfl) (kn rfl) (AK (by first | omega | (dsimp only;omega)))) (AC rfl rfl rfl rfl rfl .nil))) ?_
   try refine A3 ?_
   refine AS ⟨k+1,by omega,by omega,hw⟩ (by dsimp only;omega) (fun K=>AL ⟨s_t,s_t,s_t,trivial⟩ ⟨s_b,s_b,trivial⟩ trivial)
  ·have hge:(a.fields).length<=k\/(b.fields).length<=k:=by
    have:¬ (k<(a.fields).length/\k<(b.fields).length):=by simpa using h
    omega
   have hend:fcmp (a.fields) (b.fields)=ncmp (a.fields).length (b.fields).length:=by
    rw[<- hw,ST _ _ (by rcases hge with h | h;exact .inl (List.drop_eq_nil_of_le h);exact .inr (List.drop_eq_nil_of_le h)),List.length_drop,List.length_drop,CZ _ _ _ hk hk2]
   try refine A3 ?_
   rw[hend]at e
   refine A2 (A4 rfl rfl rfl (A1 rfl (kn rfl) off_39_3) (A4 rfl rfl rfl (A5 rfl (kn rfl) rfl rfl one_35) (A4 rfl rfl rfl (AR rfl (kn rfl) sle_35) (A4 rfl rfl rfl (GN rfl (kn rfl) (by kernel_rfl) int_22 (by kernel_rfl) (ES _ (by omega) (by omega))) (A4 rfl rfl rfl (A1 rfl (kn rfl) off_39_3) (A4 rfl rfl rfl (A5 rfl (kn rfl) rfl rfl one_35) (A4 rfl rfl rfl (AR rfl (kn rfl) sle_35) (A4 rfl rfl rfl (GN rfl (kn rfl) (by kernel_rfl) int_22 (by kernel_rfl) (ES _ (by omega) (by omega))) (A4 rfl rfl rfl (AD rfl (by kernel_rfl) (FF a.fields.length b.fields.length) ⟨(kn rfl),⟨(kn rfl),trivial⟩⟩) (AC rfl rfl rfl rfl rfl .nil)))))))))) ?_
   try refine A3 ?_
   refine A2 (A9 rfl rfl rfl rfl rfl (A4 rfl rfl rfl (A6 rfl (kn rfl) (kn rfl) BI) .nil)) ?_
   try refine A3 ?_
   refine AB rfl (fun h3=>?_) (fun h3=>?_)
   ·rw[CL (by simpa using h3)]at e
    try refine A3 ?_
    refine A2 (A9 rfl rfl rfl rfl rfl (AC rfl rfl rfl rfl rfl .nil)) ?_
    try refine A3 ?_
    exact A8 rfl rfl (.tmp (kn rfl) (.nil)) (Imp.of_eq (by rw[e];rfl)) rfl
   rw[D8 (by simpa using h3)]at e
   try refine A3 ?_
   refine A2 (A4 rfl rfl rfl (A1 rfl (kn rfl) off_39_4) (A4 rfl rfl rfl (A5 rfl (kn rfl) rfl rfl one_9) (A4 rfl rfl rfl (A1 rfl (kn rfl) off_39_4) (A4 rfl rfl rfl (A5 rfl (kn rfl) rfl rfl one_9) (A4 rfl rfl rfl (AD rfl (by kernel_rfl) (O1 a.rest b.rest) ⟨(kn rfl),⟨(kn rfl),trivial⟩⟩) (AC rfl rfl rfl rfl rfl .nil)))))) ?_
   try refine A3 ?_
   exact A8 rfl rfl (.tmp (kn rfl) (.nil)) (Imp.of_eq (by rw[e];rfl)) rfl
 have n3:=of_decide_eq_false q3
 try refine A3 ?_
 refine A2 (A4 rfl rfl rfl (A6 rfl (kn rfl) (kn rfl) AP) (AC rfl rfl rfl rfl rfl .nil)) ?_
 try refine A3 ?_
 refine AB rfl (fun q4=>?_) (fun q4=>?_)
 ·have e:vcmp a b=lcmp a.list b.list:=by rw[he];exact(if_neg n1).trans ((if_neg n2).trans ((if_neg n3).trans (if_pos (of_decide_eq_true q4))))
  try refine A3 ?_
  refine A2 (AC rfl rfl rfl rfl rfl .nil) ?_
  try refine A3 ?_
  refine AX (ι:={ k:Nat // k<=(a.list).length/\k<=(b.list).length/\lcmp ((a.list).drop k) ((b.list).drop k)=lcmp (a.list) (b.list) })
   (fun k=>[(2,.box 2 0),(3,.box 3 0),(8,.is (.int .i64 (k.1:Int)))])
   (fun _=>[(2,⟨39,bcs (vd a)⟩),(3,⟨39,bcs (vd b)⟩)]) (fun _=>[]) (fun k=>(a.list).length-k.1) ⟨0,by omega,by omega,by simp⟩
   (fun K=>AL ⟨s_t,s_t,s_t,trivial⟩ ⟨s_b,s_b,trivial⟩ trivial) ?_
  rintro⟨k,hk,hk2,hw⟩
  dsimp only at hk hk2 hw ⊢
  try refine A3 ?_
  refine A2 (A9 rfl rfl rfl rfl rfl (A4 rfl rfl rfl (A1 rfl (kn rfl) off_39_5) (A4 rfl rfl rfl (A5 rfl (kn rfl) rfl rfl one_36) (A4 rfl rfl rfl (AR rfl (kn rfl) sle_36) (A4 rfl rfl rfl (A6 rfl (kn rfl) (kn rfl) AY) (A9 rfl rfl rfl rfl rfl (Walk.gd _ rfl rfl rfl (fun h=>AN rfl (kn rfl)) (Walk.gd _ rfl rfl rfl (fun h=>A1 rfl (kn rfl) off_39_5) (Walk.gd _ rfl rfl rfl (fun h=>A5 rfl (A0 rfl h) rfl rfl one_36) (Walk.gd _ rfl rfl rfl (fun h=>AR rfl (A0 rfl h) sle_36) (Walk.gd _ rfl rfl rfl (fun h=>A6 rfl (A0 rfl h) (A0 rfl h) AY) (A4 rfl rfl rfl (AO rfl (kn rfl) (fun hb=>A0 rfl hb)) .nil)))))))))))) ?_
  try refine A3 ?_
  refine AB rfl (fun h=>?_) (fun h=>?_)
  ·have hlt:k<(a.list).length/\k<(b.list).length:=by simpa using h
   obtain⟨x,hx⟩:∃ x,(a.list)[k]?=some x:=⟨_,List.getElem?_eq_getElem hlt.1⟩
   obtain⟨y,hy⟩:∃ y,(b.list)[k]?=some y:=⟨_,List.getElem?_eq_getElem hlt.2⟩
   rw[BC hx,BC hy,GH]at hw
   try refine A3 ?_
   refine BD BF (by kernel_rfl) (A4 rfl rfl rfl (A1 rfl (kn rfl) off_39_5) (A4 rfl rfl rfl (A5 rfl (kn rfl) rfl rfl one_36) (A9 rfl rfl rfl rfl rfl (A4 rfl rfl rfl (AJ rfl (kn rfl) (kn rfl) (by omega) hx Vl.dats_len sle_36 esz_36 (CB x)) (A4 rfl rfl rfl (AH rfl (kn rfl) agg_39 sz_39) (A4 rfl rfl rfl (A1 rfl (kn rfl) off_39_5) (A4 rfl rfl rfl (A5 rfl (kn rfl) rfl rfl one_36) (A9 rfl rfl rfl rfl rfl (A4 rfl rfl rfl (AJ rfl (kn rfl) (kn rfl) (by omega) hy Vl.dats_len sle_36 esz_36 (CB y)) (A4 rfl rfl rfl (AH rfl (kn rfl) agg_39 sz_39) (A4 rfl rfl rfl (AD rfl (by kernel_rfl) (hl x (List.mem_of_getElem? hx) y (hb.elem (List.mem_of_getElem? hy))) ⟨(kn rfl),⟨(kn rfl),trivial⟩⟩) (AC rfl rfl rfl rfl rfl .nil)))))))))))) ?_
   try refine A3 ?_
   refine A2 (A9 rfl rfl rfl rfl rfl (A4 rfl rfl rfl (A6 rfl (kn rfl) (kn rfl) BI) .nil)) ?_
   try refine A3 ?_
   refine AB rfl (fun h3=>?_) (fun h3=>?_)
   ·rw[CL (by simpa using h3)]at hw
    rw[<- hw]at e
    try refine A3 ?_
    refine A2 (A9 rfl rfl rfl rfl rfl (AC rfl rfl rfl rfl rfl .nil)) ?_
    try refine A3 ?_
    exact A8 rfl rfl (.tmp (kn rfl) (.nil)) (Imp.of_eq (by rw[e];rfl)) rfl
   rw[D8 (by simpa using h3)]at hw
   try refine A3 ?_
   refine A2 (A9 rfl rfl rfl rfl rfl (A4 rfl rfl rfl (A6 rfl (kn rfl) (kn rfl) (AK (by first | omega | (dsimp only;omega)))) (AC rfl rfl rfl rfl rfl .nil))) ?_
   try refine A3 ?_
   refine AS ⟨k+1,by omega,by omega,hw⟩ (by dsimp only;omega) (fun K=>AL ⟨s_t,s_t,s_t,trivial⟩ ⟨s_b,s_b,trivial⟩ trivial)
  ·have hge:(a.list).length<=k\/(b.list).length<=k:=by
    have:¬ (k<(a.list).length/\k<(b.list).length):=by simpa using h
    omega
   have hend:lcmp (a.list) (b.list)=ncmp (a.list).length (b.list).length:=by
    rw[<- hw,S2 _ _ (by rcases hge with h | h;exact .inl (List.drop_eq_nil_of_le h);exact .inr (List.drop_eq_nil_of_le h)),List.length_drop,List.length_drop,CZ _ _ _ hk hk2]
   try refine A3 ?_
   rw[hend]at e
   refine A2 (A4 rfl rfl rfl (A1 rfl (kn rfl) off_39_5) (A4 rfl rfl rfl (A5 rfl (kn rfl) rfl rfl one_36) (A4 rfl rfl rfl (AR rfl (kn rfl) sle_36) (A4 rfl rfl rfl (GN rfl (kn rfl) (by kernel_rfl) int_22 (by kernel_rfl) (ES _ (by omega) (by omega))) (A4 rfl rfl rfl (A1 rfl (kn rfl) off_39_5) (A4 rfl rfl rfl (A5 rfl (kn rfl) rfl rfl one_36) (A4 rfl rfl rfl (AR rfl (kn rfl) sle_36) (A4 rfl rfl rfl (GN rfl (kn rfl) (by kernel_rfl) int_22 (by kernel_rfl) (ES _ (by omega) (by omega))) (A4 rfl rfl rfl (AD rfl (by kernel_rfl) (FF a.list.length b.list.length) ⟨(kn rfl),⟨(kn rfl),trivial⟩⟩) (AC rfl rfl rfl rfl rfl .nil)))))))))) ?_
   try refine A3 ?_
   exact A8 rfl rfl (.tmp (kn rfl) (.nil)) (Imp.of_eq (by rw[e];rfl)) rfl
 have n4:=of_decide_eq_false q4
 try refine A3 ?_
 refine A2 (A4 rfl rfl rfl (A6 rfl (kn rfl) (kn rfl) AP) (AC rfl rfl rfl rfl rfl .nil)) ?_
 try refine A3 ?_
 refine AB rfl (fun q5=>?_) (fun q5=>?_)
 ·have e:vcmp a b=pcmp a.pairs b.pairs:=by rw[he];exact(if_neg n1).trans ((if_neg n2).trans ((if_neg n3).trans ((if_neg n4).trans (if_pos (of_decide_eq_true q5)))))
  try refine A3 ?_
  refine A2 (AC rfl rfl rfl rfl rfl .nil) ?_
  try refine A3 ?_
  refine AX (ι:={ k:Nat // k<=(a.pairs).length/\k<=(b.pairs).length/\pcmp ((a.pairs).drop k) ((b.pairs).drop k)=pcmp (a.pairs) (b.pairs) })
   (fun k=>[(2,.box 2 0),(3,.box 3 0),(10,.is (.int .i64 (k.1:Int)))])
   (fun _=>[(2,⟨39,bcs (vd a)⟩),(3,⟨39,bcs (vd b)⟩)]) (fun _=>[]) (fun k=>(a.pairs).length-k.1) ⟨0,by omega,by omega,by simp⟩
   (fun K=>AL ⟨s_t,s_t,s_t,trivial⟩ ⟨s_b,s_b,trivial⟩ trivial) ?_
  rintro⟨k,hk,hk2,hw⟩
  dsimp only at hk hk2 hw ⊢
  try refine A3 ?_
  refine A2 (A9 rfl rfl rfl rfl rfl (A4 rfl rfl rfl (A1 rfl (kn rfl) off_39_6) (A4 rfl rfl rfl (A5 rfl (kn rfl) rfl rfl one_37) (A4 rfl rfl rfl (AR rfl (kn rfl) sle_37) (A4 rfl rfl rfl (A6 rfl (kn rfl) (kn rfl) AY) (A9 rfl rfl rfl rfl rfl (Walk.gd _ rfl rfl rfl (fun h=>AN rfl (kn rfl)) (Walk.gd _ rfl rfl rfl (fun h=>A1 rfl (kn rfl) off_39_6) (Walk.gd _ rfl rfl rfl (fun h=>A5 rfl (A0 rfl h) rfl rfl one_37) (Walk.gd _ rfl rfl rfl (fun h=>AR rfl (A0 rfl h) sle_37) (Walk.gd _ rfl rfl rfl (fun h=>A6 rfl (A0 rfl h) (A0 rfl h) AY) (A4 rfl rfl rfl (AO rfl (kn rfl) (fun hb=>A0 rfl hb)) .nil)))))))))))) ?_
  try refine A3 ?_
  refine AB rfl (fun h=>?_) (fun h=>?_)
  ·have hlt:k<(a.pairs).length/\k<(b.pairs).length:=by simpa using h
   obtain⟨x,hx⟩:∃ x,(a.pairs)[k]?=some x:=⟨_,List.getElem?_eq_getElem hlt.1⟩
   obtain⟨y,hy⟩:∃ y,(b.pairs)[k]?=some y:=⟨_,List.getElem?_eq_getElem hlt.2⟩
   rw[BC hx,BC hy,GL]at hw
   try refine A3 ?_
   refine BD BF (by kernel_rfl) (A4 rfl rfl rfl (A1 rfl (kn rfl) off_39_6) (A4 rfl rfl rfl (A5 rfl (kn rfl) rfl rfl one_37) (A9 rfl rfl rfl rfl rfl (A4 rfl rfl rfl (AJ rfl (kn rfl) (kn rfl) (by omega) hx B5 sle_37 esz_37 (BA x)) (A4 rfl rfl rfl (AA rfl (kn rfl) off_85_0) (A4 rfl rfl rfl (EE 7 rfl (kn rfl) agg_39 sz_39 (Nat.le_of_ble_eq_true rfl)) (A4 rfl rfl rfl (A1 rfl (kn rfl) off_39_6) (A4 rfl rfl rfl (A5 rfl (kn rfl) rfl rfl one_37) (A9 rfl rfl rfl rfl rfl (A4 rfl rfl rfl (AJ rfl (kn rfl) (kn rfl) (by omega) hy B5 sle_37 esz_37 (BA y)) (A4 rfl rfl rfl (AA rfl (kn rfl) off_85_0) (A4 rfl rfl rfl (EE 7 rfl (kn rfl) agg_39 sz_39 (Nat.le_of_ble_eq_true rfl)) (A4 rfl rfl rfl (AD rfl (by kernel_rfl) ((hp x (List.mem_of_getElem? hx)).1 y.1 (hb.pair (List.mem_of_getElem? hy)).1) ⟨(kn rfl),⟨(kn rfl),trivial⟩⟩) (AC rfl rfl rfl rfl rfl .nil)))))))))))))) ?_
   try refine A3 ?_
   refine A2 (A9 rfl rfl rfl rfl rfl (A4 rfl rfl rfl (A6 rfl (kn rfl) (kn rfl) BI) .nil)) ?_
   try refine A3 ?_
   refine AB rfl (fun h3=>?_) (fun h3=>?_)
   ·rw[CL (by simpa using h3)]at hw
    rw[<- hw]at e
    try refine A3 ?_
    refine A2 (A9 rfl rfl rfl rfl rfl (AC rfl rfl rfl rfl rfl .nil)) ?_
    try refine A3 ?_
    exact A8 rfl rfl (.tmp (kn rfl) (.nil)) (Imp.of_eq (by rw[e];rfl)) rfl
   rw[D8 (by simpa using h3)]at hw
   try refine A3 ?_
   refine BD BF (by kernel_rfl) (A4 rfl rfl rfl (A1 rfl (kn rfl) off_39_6) (A4 rfl rfl rfl (A5 rfl (kn rfl) rfl rfl one_37) (A9 rfl rfl rfl rfl rfl (A4 rfl rfl rfl (AJ rfl (kn rfl) (kn rfl) (by omega) hx B5 sle_37 esz_37 (BA x)) (A4 rfl rfl rfl (AA rfl (kn rfl) off_85_1) (A4 rfl rfl rfl (AH rfl (kn rfl) agg_39 sz_39) (A4 rfl rfl rfl (A1 rfl (kn rfl) off_39_6) (A4 rfl rfl rfl (A5 rfl (kn rfl) rfl rfl one_37) (A9 rfl rfl rfl rfl rfl (A4 rfl rfl rfl (AJ rfl (kn rfl) (kn rfl) (by omega) hy B5 sle_37 esz_37 (BA y)) (A4 rfl rfl rfl (AA rfl (kn rfl) off_85_1) (A4 rfl rfl rfl (AH rfl (kn rfl) agg_39 sz_39) (A4 rfl rfl rfl (AD rfl (by kernel_rfl) ((hp x (List.mem_of_getElem? hx)).2 y.2 (hb.pair (List.mem_of_getElem? hy)).2) ⟨(kn rfl),⟨(kn rfl),trivial⟩⟩) (AC rfl rfl rfl rfl rfl .nil)))))))))))))) ?_
   try refine A3 ?_
   refine A2 (A9 rfl rfl rfl rfl rfl (A4 rfl rfl rfl (A6 rfl (kn rfl) (kn rfl) BI) .nil)) ?_
   try refine A3 ?_
   refine AB rfl (fun h4=>?_) (fun h4=>?_)
   ·rw[CL (by simpa using h4)]at hw
    rw[<- hw]at e
    try refine A3 ?_
    refine A2 (A9 rfl rfl rfl rfl rfl (AC rfl rfl rfl rfl rfl .nil)) ?_
    try refine A3 ?_
    exact A8 rfl rfl (.tmp (kn rfl) (.nil)) (Imp.of_eq (by rw[e];rfl)) rfl
   rw[D8 (by simpa using h4)]at hw
   try refine A3 ?_
   refine A2 (A9 rfl rfl rfl rfl rfl (A4 rfl rfl rfl (A6 rfl (kn rfl) (kn rfl) (AK (by first | omega | (dsimp only;omega)))) (AC rfl rfl rfl rfl rfl .nil))) ?_
   try refine A3 ?_
   refine AS ⟨k+1,by omega,by omega,hw⟩ (by dsimp only;omega) (fun K=>AL ⟨s_t,s_t,s_t,trivial⟩ ⟨s_b,s_b,trivial⟩ trivial)
  ·have hge:(a.pairs).length<=k\/(b.pairs).length<=k:=by
    have:¬ (k<(a.pairs).length/\k<(b.pairs).length):=by simpa using h
    omega
   have hend:pcmp (a.pairs) (b.pairs)=ncmp (a.pairs).length (b.pairs).length:=by
    rw[<- hw,RZ _ _ (by rcases hge with h | h;exact .inl (List.drop_eq_nil_of_le h);exact .inr (List.drop_eq_nil_of_le h)),List.length_drop,List.length_drop,CZ _ _ _ hk hk2]
   try refine A3 ?_
   rw[hend]at e
   refine A2 (A4 rfl rfl rfl (A1 rfl (kn rfl) off_39_6) (A4 rfl rfl rfl (A5 rfl (kn rfl) rfl rfl one_37) (A4 rfl rfl rfl (AR rfl (kn rfl) sle_37) (A4 rfl rfl rfl (GN rfl (kn rfl) (by kernel_rfl) int_22 (by kernel_rfl) (ES _ (by omega) (by omega))) (A4 rfl rfl rfl (A1 rfl (kn rfl) off_39_6) (A4 rfl rfl rfl (A5 rfl (kn rfl) rfl rfl one_37) (A4 rfl rfl rfl (AR rfl (kn rfl) sle_37) (A4 rfl rfl rfl (GN rfl (kn rfl) (by kernel_rfl) int_22 (by kernel_rfl) (ES _ (by omega) (by omega))) (A4 rfl rfl rfl (AD rfl (by kernel_rfl) (FF a.pairs.length b.pairs.length) ⟨(kn rfl),⟨(kn rfl),trivial⟩⟩) (AC rfl rfl rfl rfl rfl .nil)))))))))) ?_
   try refine A3 ?_
   exact A8 rfl rfl (.tmp (kn rfl) (.nil)) (Imp.of_eq (by rw[e];rfl)) rfl
 have n5:=of_decide_eq_false q5
 have e:vcmp a b=0:=by rw[he];exact(if_neg n1).trans ((if_neg n2).trans ((if_neg n3).trans ((if_neg n4).trans (if_neg n5))))
 try refine A3 ?_
 refine A2 (AC rfl rfl rfl rfl rfl .nil) ?_
 try refine A3 ?_
 exact A8 rfl rfl (.tmp (kn rfl) (.nil)) (Imp.of_eq (by rw[e];rfl)) rfl
theorem OT(a:Vl)(ha:a.Fine):P9 25 a:=by
 revert ha
 refine Vl.parts (P:=fun a=>a.Fine->P9 25 a) (fun v hf hl hp ha=>?_) a
 exact RK v ha (fun f h=>hf f h (ha.field h).2) (fun x h=>hl x h (ha.elem h)) (fun p h=>⟨(hp p h).1 (ha.pair h).1,(hp p h).2 (ha.pair h).2⟩)
theorem HC(a b:Vl)(ha:a.Fine)(hb:b.Fine):EF Tryz.prog [] 22 [.many (vd a),.many (vd b)] (.part (tP (decide (vcmp a b=0)))):=by
 refine AG 9 Tryz.func22 rfl rfl rfl fun w D=>?_
 try refine A3 ?_
 refine AI ?_
 refine B9 2 rfl rfl rfl rfl (kn rfl) rfl rfl rfl rfl ?_
 refine B9 3 rfl rfl rfl rfl (kn rfl) rfl rfl rfl rfl ?_
 refine BX ?_
 refine AM ?_
 try refine A3 ?_
 refine A2 (A4 rfl rfl rfl (A7 (ds:=[_,_,_,_,_,_,_]) 7 rfl (kn rfl) rfl rfl agg_39 sz_39 rfl) (A4 rfl rfl rfl (A7 (ds:=[_,_,_,_,_,_,_]) 7 rfl (kn rfl) rfl rfl agg_39 sz_39 rfl) (A4 rfl rfl rfl (AD rfl (by kernel_rfl) (OT a ha b hb) ⟨(kn rfl),⟨(kn rfl),trivial⟩⟩) (A4 rfl rfl rfl (A6 rfl (kn rfl) (kn rfl) AP) (AC rfl rfl rfl rfl rfl .nil))))) ?_
 try refine A3 ?_
 exact A8 rfl rfl (.tmp (kn rfl) (.nil)) (Imp.of_eq rfl) rfl
end Go.Proofs.YtojdpgeeajaojaaGreat
