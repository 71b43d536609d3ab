/- Part 10. Conditions: as each theorem says. -/
import Derived.Test.YtecfdcdkkgmkpaaIO09
import Derived.Test.YtecfdcdkkgmkpaaProg
set_option maxRecDepth 100000
namespace Go.Proofs.Ytecfdcdkkgmkpaa
open Go.RowKit
def vd(v:Vl):List Dat:=[.cell (.int .i64 v.kind),.cell (.int .u64 (v.num:Int)),.cell (.string (str v.text)),.row 8 v.fields.length (v.fields.flatMap fieldDats),.cell (.string (str v.rest)),.row 7 v.list.length (v.list.flatMap Vl.dats),.row 14 v.pairs.length (v.pairs.flatMap pairDats)]
theorem DP(v:Vl):v.dats=vd v:=v.dats_eq
theorem BI(f:Int×Vl):fieldDats f=.cell (.int .i64 f.1)::vd f.2:=by unfold fieldDats;rw[DP]
theorem BS(p:Vl×Vl):pairDats p=vd p.1++vd p.2:=by unfold pairDats;rw[DP,DP]
abbrev iP(z:Int):Part:=.one (.cell (.int .i64 z))
abbrev uP(n:Nat):Part:=.one (.cell (.int .u64 (n:Int)))
abbrev sP(l:List UInt8):Part:=.one (.cell (.string (str l)))
abbrev tP(b:Bool):Part:=.one (.cell (.bool b))
theorem IG{a b:Nat}(h:a<b):ncmp a b = -1:=if_pos h
theorem IU{a b:Nat}(h:b<a):ncmp a b=1:=(if_neg (by omega)).trans (if_pos h)
theorem IS{a b:Nat}(h:a=b):ncmp a b=0:=(if_neg (by omega)).trans (if_neg (by omega))
theorem O7{a b:Int}(h:a<b):EI a b = -1:=if_pos h
theorem O9{a b:Int}(h:b<a):EI a b=1:=(if_neg (by omega)).trans (if_pos h)
theorem KD{a b:Int}(h:a=b):EI a b=0:=(if_neg (by omega)).trans (if_neg (by omega))
theorem CR{x y:Int}(h:x≠0):lex x y=x:=if_pos h
theorem DS{x y:Int}(h:x=0):lex x y=y:=if_neg (by omega)
theorem G3(a b:Nat):EF Try.prog [] 93 [uP a,uP b] (.part (iP (ncmp a b))):=by
 refine AH 11 Try.func93 rfl rfl rfl fun w D=>?_
 try refine A2 ?_
 refine A1 (AC rfl rfl rfl rfl rfl .nil) ?_
 try refine A2 ?_
 refine A1 (A9 rfl rfl rfl rfl rfl (A9 rfl rfl rfl rfl rfl (A4 rfl rfl rfl (A6 rfl (kn rfl) (kn rfl) B7) .nil))) ?_
 try refine A2 ?_
 refine AA rfl (fun h=>?_) (fun h=>?_)
 ·have e:ncmp a b = -1:=IG (by have:=of_decide_eq_true h;omega)
  try refine A2 ?_
  refine A1 (AC rfl rfl rfl rfl rfl .nil) ?_
  try refine A2 ?_
  exact A8 rfl rfl (.tmp (kn rfl) (.nil)) (Imp.of_eq (by rw[e];rfl)) rfl
 try refine A2 ?_
 refine A1 (A9 rfl rfl rfl rfl rfl (A9 rfl rfl rfl rfl rfl (A4 rfl rfl rfl (A6 rfl (kn rfl) (kn rfl) D7) .nil))) ?_
 try refine A2 ?_
 refine AA rfl (fun h2=>?_) (fun h2=>?_)
 ·have e:ncmp a b=1:=IU (by have:=of_decide_eq_true h2;omega)
  try refine A2 ?_
  refine A1 (AC rfl rfl rfl rfl rfl .nil) ?_
  try refine A2 ?_
  exact A8 rfl rfl (.tmp (kn rfl) (.nil)) (Imp.of_eq (by rw[e];rfl)) rfl
 have e:ncmp a b=0:=IS (by have:=of_decide_eq_false h;have:=of_decide_eq_false h2;omega)
 try refine A2 ?_
 refine A1 (AC rfl rfl rfl rfl rfl .nil) ?_
 try refine A2 ?_
 exact A8 rfl rfl (.tmp (kn rfl) (.nil)) (Imp.of_eq (by rw[e];rfl)) rfl
theorem P6(a b:List UInt8):EF Try.prog [] 94 [sP a,sP b] (.part (iP (tcmp a b))):=by
 have hin:=NH a b
 refine AH 11 Try.func94 rfl rfl rfl fun w D=>?_
 try refine A2 ?_
 refine A1 (AC rfl rfl rfl rfl rfl .nil) ?_
 try refine A2 ?_
 refine A1 (A9 rfl rfl rfl rfl rfl (A9 rfl rfl rfl rfl rfl (A4 rfl rfl rfl (A6 rfl (kn rfl) (kn rfl) (WK)) .nil))) ?_
 try refine A2 ?_
 refine AA rfl (fun h=>?_) (fun h=>?_)
 ·have e:tcmp a b = -1:=by have:=of_decide_eq_true h;omega
  try refine A2 ?_
  refine A1 (AC rfl rfl rfl rfl rfl .nil) ?_
  try refine A2 ?_
  exact A8 rfl rfl (.tmp (kn rfl) (.nil)) (Imp.of_eq (by rw[e];rfl)) rfl
 try refine A2 ?_
 refine A1 (A9 rfl rfl rfl rfl rfl (A9 rfl rfl rfl rfl rfl (A4 rfl rfl rfl (A6 rfl (kn rfl) (kn rfl) (WR)) .nil))) ?_
 try refine A2 ?_
 refine AA rfl (fun h2=>?_) (fun h2=>?_)
 ·have e:tcmp a b=1:=by have:=of_decide_eq_true h2;omega
  try refine A2 ?_
  refine A1 (AC rfl rfl rfl rfl rfl .nil) ?_
  try refine A2 ?_
  exact A8 rfl rfl (.tmp (kn rfl) (.nil)) (Imp.of_eq (by rw[e];rfl)) rfl
 have e:tcmp a b=0:=by have:=of_decide_eq_false h;have:=of_decide_eq_false h2;omega
 try refine A2 ?_
 refine A1 (AC rfl rfl rfl rfl rfl .nil) ?_
 try refine A2 ?_
 exact A8 rfl rfl (.tmp (kn rfl) (.nil)) (Imp.of_eq (by rw[e];rfl)) rfl
def QJ(f:FuncId)(a:Vl):Prop:=∀ b:Vl,b.Fine->EF Try.prog [] f [.many (vd a),.many (vd b)] (.part (iP (vcmp a b)))
set_option maxHeartbeats 4000000 in
theorem UN(a:Vl)(ha:a.Fine)(hf:∀ f∈a.fields,QJ 56 f.2)(hl:∀ x∈a.list,QJ 56 x)(hp:∀ p∈a.pairs,QJ 56 p.1/\QJ 56 p.2):QJ 56 a:=by
 intro b hb
 refine AH 210 Try.func56 rfl rfl rfl fun w D=>?_
 try refine A2 ?_
 have hmax:maxLen<=9223372036854775807:=by decide
 obtain⟨a1,a2,a3,a4,a5,a6,a7,a8⟩:=ha.bounds
 obtain⟨b1,b2,b3,b4,b5,b6,b7,b8⟩:=hb.bounds
 refine AF ?_
 refine BX 2 rfl rfl rfl rfl (kn rfl) rfl rfl rfl rfl ?_
 refine BX 3 rfl rfl rfl rfl (kn rfl) rfl rfl rfl rfl ?_
 refine BY ?_
 refine AD ?_
 try refine A2 ?_
 refine A1 (A4 rfl rfl rfl (A0 rfl (kn rfl) off_40_0) (A4 rfl rfl rfl (A5 rfl (kn rfl) rfl rfl one_3) (A4 rfl rfl rfl (A0 rfl (kn rfl) off_40_0) (A4 rfl rfl rfl (A5 rfl (kn rfl) rfl rfl one_3) (A4 rfl rfl rfl (A6 rfl (kn rfl) (kn rfl) B7) .nil))))) ?_
 try refine A2 ?_
 refine AA rfl (fun h=>?_) (fun h=>?_)
 ·have g:=O7 (of_decide_eq_true h)
  have e:vcmp a b = -1:=by rw[F9,CR (by rw[g];decide),g]
  try refine A2 ?_
  refine A1 (AC rfl rfl rfl rfl rfl .nil) ?_
  try refine A2 ?_
  exact A8 rfl rfl (.tmp (kn rfl) (.nil)) (Imp.of_eq (by rw[e];rfl)) rfl
 try refine A2 ?_
 refine A1 (A4 rfl rfl rfl (A0 rfl (kn rfl) off_40_0) (A4 rfl rfl rfl (A5 rfl (kn rfl) rfl rfl one_3) (A4 rfl rfl rfl (A0 rfl (kn rfl) off_40_0) (A4 rfl rfl rfl (A5 rfl (kn rfl) rfl rfl one_3) (A4 rfl rfl rfl (A6 rfl (kn rfl) (kn rfl) D7) .nil))))) ?_
 try refine A2 ?_
 refine AA rfl (fun h2=>?_) (fun h2=>?_)
 ·have g:=O9 (of_decide_eq_true h2)
  have e:vcmp a b=1:=by rw[F9,CR (by rw[g];decide),g]
  try refine A2 ?_
  refine A1 (AC rfl rfl rfl rfl rfl .nil) ?_
  try refine A2 ?_
  exact A8 rfl rfl (.tmp (kn rfl) (.nil)) (Imp.of_eq (by rw[e];rfl)) rfl
 have he:vcmp a b=body a.kind a b:=by rw[F9,DS (KD (by have:=of_decide_eq_false h;have:=of_decide_eq_false h2;omega))]
 clear h h2
 try refine A2 ?_
 refine A1 (A4 rfl rfl rfl (A0 rfl (kn rfl) off_40_0) (A4 rfl rfl rfl (A5 rfl (kn rfl) rfl rfl one_3) .nil)) ?_
 try refine A2 ?_
 try refine A2 ?_
 refine A1 (A4 rfl rfl rfl (A6 rfl (kn rfl) (kn rfl) AO) (AC rfl rfl rfl rfl rfl .nil)) ?_
 try refine A2 ?_
 refine AA rfl (fun q1=>?_) (fun q1=>?_)
 ·have e:vcmp a b=ncmp a.num b.num:=by rw[he];exact if_pos (of_decide_eq_true q1)
  try refine A2 ?_
  refine A1 (A4 rfl rfl rfl (A0 rfl (kn rfl) off_40_1) (A4 rfl rfl rfl (A5 rfl (kn rfl) rfl rfl one_22) (A4 rfl rfl rfl (A0 rfl (kn rfl) off_40_1) (A4 rfl rfl rfl (A5 rfl (kn rfl) rfl rfl one_22) (A4 rfl rfl rfl (AE rfl (by kernel_rfl) (G3 a.num b.num) ⟨(kn rfl),⟨(kn rfl),trivial⟩⟩) (AC rfl rfl rfl rfl rfl .nil)))))) ?_
  try refine A2 ?_
  exact A8 rfl rfl (.tmp (kn rfl) (.nil)) (Imp.of_eq (by rw[e];rfl)) rfl
 have n1:=of_decide_eq_false q1
 try refine A2 ?_
 refine A1 (A4 rfl rfl rfl (A6 rfl (kn rfl) (kn rfl) AO) (AC rfl rfl rfl rfl rfl .nil)) ?_
 try refine A2 ?_
 refine AA rfl (fun q2=>?_) (fun q2=>?_)
 ·have e:vcmp a b=tcmp a.text b.text:=by rw[he];exact(if_neg n1).trans (if_pos (of_decide_eq_true q2))
  try refine A2 ?_
  refine A1 (A4 rfl rfl rfl (A0 rfl (kn rfl) off_40_2) (A4 rfl rfl rfl (A5 rfl (kn rfl) rfl rfl one_9) (A4 rfl rfl rfl (A0 rfl (kn rfl) off_40_2) (A4 rfl rfl rfl (A5 rfl (kn rfl) rfl rfl one_9) (A4 rfl rfl rfl (AE rfl (by kernel_rfl) (P6 a.text b.text) ⟨(kn rfl),⟨(kn rfl),trivial⟩⟩) (AC rfl rfl rfl rfl rfl .nil)))))) ?_
  try refine A2 ?_
  exact A8 rfl rfl (.tmp (kn rfl) (.nil)) (Imp.of_eq (by rw[e];rfl)) rfl
 have n2:=of_decide_eq_false q2
 try refine A2 ?_
 refine A1 (A4 rfl rfl rfl (A6 rfl (kn rfl) (kn rfl) AO) (AC rfl rfl rfl rfl rfl .nil)) ?_
 try refine A2 ?_
 refine AA rfl (fun q3=>?_) (fun q3=>?_)
 ·have e:vcmp a b=lex (fcmp a.fields b.fields) (tcmp a.rest b.rest):=by rw[he];exact(if_neg n1).trans ((if_neg n2).trans (if_pos (of_decide_eq_true q3)))
  try refine A2 ?_
  refine A1 (AC rfl rfl rfl rfl rfl .nil) ?_
  try refine A2 ?_
  refine BB (ι:={ k:Nat // k<=(a.fields).length/\k<=(b.fields).length/\fcmp ((a.fields).drop k) ((b.fields).drop k)=fcmp (a.fields) (b.fields) })
   (fun k=>[(2,.box 2 0),(3,.box 3 0),(5,.is (.int .i64 (k.1:Int)))])
   (fun _=>[(2,⟨40,bcs (vd a)⟩),(3,⟨40,bcs (vd b)⟩)]) (fun _=>[]) (fun k=>(a.fields).length-k.1) ⟨0,by omega,by omega,by simp⟩
   (fun K=>AM ⟨s_t,s_t,s_t,trivial⟩ ⟨s_b,s_b,trivial⟩ trivial) ?_
  rintro⟨k,hk,hk2,hw⟩
  dsimp only at hk hk2 hw ⊢
  try refine A2 ?_
  refine A1 (A9 rfl rfl rfl rfl rfl (A4 rfl rfl rfl (A0 rfl (kn rfl) off_40_3) (A4 rfl rfl rfl (A5 rfl (kn rfl) rfl rfl one_36) (A4 rfl rfl rfl (AT rfl (kn rfl) sle_36) (A4 rfl rfl rfl (A6 rfl (kn rfl) (kn rfl) B7) (A9 rfl rfl rfl rfl rfl (Walk.gd _ rfl rfl rfl (fun h=>AW rfl (kn rfl)) (Walk.gd _ rfl rfl rfl (fun h=>A0 rfl (kn rfl) off_40_3) (Walk.gd _ rfl rfl rfl (fun h=>A5 rfl (A3 rfl h) rfl rfl one_36) (Walk.gd _ rfl rfl rfl (fun h=>AT rfl (A3 rfl h) sle_36) (Walk.gd _ rfl rfl rfl (fun h=>A6 rfl (A3 rfl h) (A3 rfl h) B7) (A4 rfl rfl rfl (AQ rfl (kn rfl) (fun hb=>A3 rfl hb)) .nil)))))))))))) ?_
  try refine A2 ?_
  refine AA rfl (fun h=>?_) (fun h=>?_)
  ·have hlt:k<(a.fields).length/\k<(b.fields).length:=by simpa using h
   obtain⟨x,hx⟩:∃ x,(a.fields)[k]?=some x:=⟨_,List.getElem?_eq_getElem hlt.1⟩
   obtain⟨y,hy⟩:∃ y,(b.fields)[k]?=some y:=⟨_,List.getElem?_eq_getElem hlt.2⟩
   rw[B6 hx,B6 hy,GW]at hw
   try refine A2 ?_
   refine CT C5 (by kernel_rfl) (A4 rfl rfl rfl (A0 rfl (kn rfl) off_40_3) (A4 rfl rfl rfl (A5 rfl (kn rfl) rfl rfl one_36) (A9 rfl rfl rfl rfl rfl (A4 rfl rfl rfl (AL rfl (kn rfl) (kn rfl) (by omega) hx B9 sle_36 esz_36 (BI x)) (A4 rfl rfl rfl (AB rfl (kn rfl) off_99_0) (A4 rfl rfl rfl (AI rfl (kn rfl) one_3) (A4 rfl rfl rfl (A0 rfl (kn rfl) off_40_3) (A4 rfl rfl rfl (A5 rfl (kn rfl) rfl rfl one_36) (A9 rfl rfl rfl rfl rfl (A4 rfl rfl rfl (AL rfl (kn rfl) (kn rfl) (by omega) hy B9 sle_36 esz_36 (BI y)) (A4 rfl rfl rfl (AB rfl (kn rfl) off_99_0) (A4 rfl rfl rfl (AI rfl (kn rfl) one_3) (A4 rfl rfl rfl (A6 rfl (kn rfl) (kn rfl) B7) .nil))))))))))))) ?_
   try refine A2 ?_
   refine AA rfl (fun h=>?_) (fun h=>?_)
   ·have g:=O7 (of_decide_eq_true h)
    rw[CR (by rw[g];decide),g]at hw
    rw[<- hw,CR (by decide)]at e
    try refine A2 ?_
    refine A1 (AC rfl rfl rfl rfl rfl .nil) ?_
    try refine A2 ?_
    exact A8 rfl rfl (.tmp (kn rfl) (.nil)) (Imp.of_eq (by rw[e];rfl)) rfl
   try refine A2 ?_
   refine CT C5 (by kernel_rfl) (A4 rfl rfl rfl (A0 rfl (kn rfl) off_40_3) (A4 rfl rfl rfl (A5 rfl (kn rfl) rfl rfl one_36) (A9 rfl rfl rfl rfl rfl (A4 rfl rfl rfl (AL rfl (kn rfl) (kn rfl) (by omega) hx B9 sle_36 esz_36 (BI x)) (A4 rfl rfl rfl (AB rfl (kn rfl) off_99_0) (A4 rfl rfl rfl (AI rfl (kn rfl) one_3) (A4 rfl rfl rfl (A0 rfl (kn rfl) off_40_3) (A4 rfl rfl rfl (A5 rfl (kn rfl) rfl rfl one_36) (A9 rfl rfl rfl rfl rfl (A4 rfl rfl rfl (AL rfl (kn rfl) (kn rfl) (by omega) hy B9 sle_36 esz_36 (BI y)) (A4 rfl rfl rfl (AB rfl (kn rfl) off_99_0) (A4 rfl rfl rfl (AI rfl (kn rfl) one_3) (A4 rfl rfl rfl (A6 rfl (kn rfl) (kn rfl) D7) .nil))))))))))))) ?_
   try refine A2 ?_
   refine AA rfl (fun h2=>?_) (fun h2=>?_)
   ·have g:=O9 (of_decide_eq_true h2)
    rw[CR (by rw[g];decide),g]at hw
    rw[<- hw,CR (by decide)]at e
    try refine A2 ?_
    refine A1 (AC rfl rfl rfl rfl rfl .nil) ?_
    try refine A2 ?_
    exact A8 rfl rfl (.tmp (kn rfl) (.nil)) (Imp.of_eq (by rw[e];rfl)) rfl
   rw[DS (KD (by have:=of_decide_eq_false h;have:=of_decide_eq_false h2;omega))]at hw
   try refine A2 ?_
   refine CT C5 (by kernel_rfl) (A4 rfl rfl rfl (A0 rfl (kn rfl) off_40_3) (A4 rfl rfl rfl (A5 rfl (kn rfl) rfl rfl one_36) (A9 rfl rfl rfl rfl rfl (A4 rfl rfl rfl (AL rfl (kn rfl) (kn rfl) (by omega) hx B9 sle_36 esz_36 (BI x)) (A4 rfl rfl rfl (AB rfl (kn rfl) off_99_1) (A4 rfl rfl rfl (AJ rfl (kn rfl) agg_40 sz_40) (A4 rfl rfl rfl (A0 rfl (kn rfl) off_40_3) (A4 rfl rfl rfl (A5 rfl (kn rfl) rfl rfl one_36) (A9 rfl rfl rfl rfl rfl (A4 rfl rfl rfl (AL rfl (kn rfl) (kn rfl) (by omega) hy B9 sle_36 esz_36 (BI y)) (A4 rfl rfl rfl (AB rfl (kn rfl) off_99_1) (A4 rfl rfl rfl (AJ rfl (kn rfl) agg_40 sz_40) (A4 rfl rfl rfl (AE rfl (by kernel_rfl) (hf x (List.mem_of_getElem? hx) y.2 (hb.field (List.mem_of_getElem? hy)).2) ⟨(kn rfl),⟨(kn rfl),trivial⟩⟩) (AC rfl rfl rfl rfl rfl .nil)))))))))))))) ?_
   try refine A2 ?_
   refine A1 (A9 rfl rfl rfl rfl rfl (A4 rfl rfl rfl (A6 rfl (kn rfl) (kn rfl) CE) .nil)) ?_
   try refine A2 ?_
   refine AA rfl (fun h3=>?_) (fun h3=>?_)
   ·have g:vcmp x.2 y.2≠0:=by simpa using h3
    rw[CR g]at hw
    rw[<- hw,CR g]at e
    try refine A2 ?_
    refine A1 (A9 rfl rfl rfl rfl rfl (AC rfl rfl rfl rfl rfl .nil)) ?_
    try refine A2 ?_
    exact A8 rfl rfl (.tmp (kn rfl) (.nil)) (Imp.of_eq (by rw[e];rfl)) rfl
   rw[DS (by simpa using h3)]at hw
   try refine A2 ?_
   refine A1 (A9 rfl rfl rfl rfl rfl (A4 rfl rfl rfl (A6 rfl (kn rfl) (kn rfl) (AS (by first | omega | (dsimp only;omega)))) (AC rfl rfl rfl rfl rfl .nil))) ?_
   try refine A2 ?_
   refine AR ⟨k+1,by omega,by omega,hw⟩ (by dsimp only;omega) (fun K=>AM ⟨s_t,s_t,s_t,trivial⟩ ⟨s_b,s_b,trivial⟩ trivial)
  ·have hge:(a.fields).length<=k\/(b.fields).length<=k:=by
    have:¬ (k<(a.fields).length/\k<(b.fields).length):=by simpa using h
    omega
   have hend:fcmp (a.fields) (b.fields)=ncmp (a.fields).length (b.fields).length:=by
    rw[<- hw,UJ _ _ (by rcases hge with h | h;exact .inl (List.drop_eq_nil_of_le h);exact .inr (List.drop_eq_nil_of_le h)),List.length_drop,List.length_drop,DB _ _ _ hk hk2]
   try refine A2 ?_
   rw[hend]at e
   refine A1 (A4 rfl rfl rfl (A0 rfl (kn rfl) off_40_3) (A4 rfl rfl rfl (A5 rfl (kn rfl) rfl rfl one_36) (A4 rfl rfl rfl (AT rfl (kn rfl) sle_36) (A4 rfl rfl rfl (H3 rfl (kn rfl) (by kernel_rfl) int_22 (by kernel_rfl) (FO _ (by omega) (by omega))) (A4 rfl rfl rfl (A0 rfl (kn rfl) off_40_3) (A4 rfl rfl rfl (A5 rfl (kn rfl) rfl rfl one_36) (A4 rfl rfl rfl (AT rfl (kn rfl) sle_36) (A4 rfl rfl rfl (H3 rfl (kn rfl) (by kernel_rfl) int_22 (by kernel_rfl) (FO _ (by omega) (by omega))) (A4 rfl rfl rfl (AE rfl (by kernel_rfl) (G3 a.fields.length b.fields.length) ⟨(kn rfl),⟨(kn rfl),trivial⟩⟩) (AC rfl rfl rfl rfl rfl .nil)))))))))) ?_
   try refine A2 ?_
   refine A1 (A9 rfl rfl rfl rfl rfl (A4 rfl rfl rfl (A6 rfl (kn rfl) (kn rfl) CE) .nil)) ?_
   try refine A2 ?_
   refine AA rfl (fun h3=>?_) (fun h3=>?_)
   ·rw[CR (by simpa using h3)]at e
    try refine A2 ?_
    refine A1 (A9 rfl rfl rfl rfl rfl (AC rfl rfl rfl rfl rfl .nil)) ?_
    try refine A2 ?_
    exact A8 rfl rfl (.tmp (kn rfl) (.nil)) (Imp.of_eq (by rw[e];rfl)) rfl
   rw[DS (by simpa using h3)]at e
   try refine A2 ?_
   refine A1 (A4 rfl rfl rfl (A0 rfl (kn rfl) off_40_4) (A4 rfl rfl rfl (A5 rfl (kn rfl) rfl rfl one_9) (A4 rfl rfl rfl (A0 rfl (kn rfl) off_40_4) (A4 rfl rfl rfl (A5 rfl (kn rfl) rfl rfl one_9) (A4 rfl rfl rfl (AE rfl (by kernel_rfl) (P6 a.rest b.rest) ⟨(kn rfl),⟨(kn rfl),trivial⟩⟩) (AC rfl rfl rfl rfl rfl .nil)))))) ?_
   try refine A2 ?_
   exact A8 rfl rfl (.tmp (kn rfl) (.nil)) (Imp.of_eq (by rw[e];rfl)) rfl
 have n3:=of_decide_eq_false q3
 try refine A2 ?_
 refine A1 (A4 rfl rfl rfl (A6 rfl (kn rfl) (kn rfl) AO) (AC rfl rfl rfl rfl rfl .nil)) ?_
 try refine A2 ?_
 refine AA rfl (fun q4=>?_) (fun q4=>?_)
 ·have e:vcmp a b=lcmp a.list b.list:=by rw[he];exact(if_neg n1).trans ((if_neg n2).trans ((if_neg n3).trans (if_pos (of_decide_eq_true q4))))
  try refine A2 ?_
  refine A1 (AC rfl rfl rfl rfl rfl .nil) ?_
  try refine A2 ?_
  refine BB (ι:={ k:Nat // k<=(a.list).length/\k<=(b.list).length/\lcmp ((a.list).drop k) ((b.list).drop k)=lcmp (a.list) (b.list) })
   (fun k=>[(2,.box 2 0),(3,.box 3 0),(8,.is (.int .i64 (k.1:Int)))])
   (fun _=>[(2,⟨40,bcs (vd a)⟩),(3,⟨40,bcs (vd b)⟩)]) (fun _=>[]) (fun k=>(a.list).length-k.1) ⟨0,by omega,by omega,by simp⟩
   (fun K=>AM ⟨s_t,s_t,s_t,trivial⟩ ⟨s_b,s_b,trivial⟩ trivial) ?_
  rintro⟨k,hk,hk2,hw⟩
  dsimp only at hk hk2 hw ⊢
  try refine A2 ?_
  refine A1 (A9 rfl rfl rfl rfl rfl (A4 rfl rfl rfl (A0 rfl (kn rfl) off_40_5) (A4 rfl rfl rfl (A5 rfl (kn rfl) rfl rfl one_37) (A4 rfl rfl rfl (AT rfl (kn rfl) sle_37) (A4 rfl rfl rfl (A6 rfl (kn rfl) (kn rfl) B7) (A9 rfl rfl rfl rfl rfl (Walk.gd _ rfl rfl rfl (fun h=>AW rfl (kn rfl)) (Walk.gd _ rfl rfl rfl (fun h=>A0 rfl (kn rfl) off_40_5) (Walk.gd _ rfl rfl rfl (fun h=>A5 rfl (A3 rfl h) rfl rfl one_37) (Walk.gd _ rfl rfl rfl (fun h=>AT rfl (A3 rfl h) sle_37) (Walk.gd _ rfl rfl rfl (fun h=>A6 rfl (A3 rfl h) (A3 rfl h) B7) (A4 rfl rfl rfl (AQ rfl (kn rfl) (fun hb=>A3 rfl hb)) .nil)))))))))))) ?_
  try refine A2 ?_
  refine AA rfl (fun h=>?_) (fun h=>?_)
  ·have hlt:k<(a.list).length/\k<(b.list).length:=by simpa using h
   obtain⟨x,hx⟩:∃ x,(a.list)[k]?=some x:=⟨_,List.getElem?_eq_getElem hlt.1⟩
   obtain⟨y,hy⟩:∃ y,(b.list)[k]?=some y:=⟨_,List.getElem?_eq_getElem hlt.2⟩
   rw[B6 hx,B6 hy,H9]at hw
   try refine A2 ?_
   refine CT C5 (by kernel_rfl) (A4 rfl rfl rfl (A0 rfl (kn rfl) off_40_5) (A4 rfl rfl rfl (A5 rfl (kn rfl) rfl rfl one_37) (A9 rfl rfl rfl rfl rfl (A4 rfl rfl rfl (AL rfl (kn rfl) (kn rfl) (by omega) hx Vl.dats_len sle_37 esz_37 (DP x)) (A4 rfl rfl rfl (AJ rfl (kn rfl) agg_40 sz_40) (A4 rfl rfl rfl (A0 rfl (kn rfl) off_40_5) (A4 rfl rfl rfl (A5 rfl (kn rfl) rfl rfl one_37) (A9 rfl rfl rfl rfl rfl (A4 rfl rfl rfl (AL rfl (kn rfl) (kn rfl) (by omega) hy Vl.dats_len sle_37 esz_37 (DP y)) (A4 rfl rfl rfl (AJ rfl (kn rfl) agg_40 sz_40) (A4 rfl rfl rfl (AE rfl (by kernel_rfl) (hl x (List.mem_of_getElem? hx) y (hb.elem (List.mem_of_getElem? hy))) ⟨(kn rfl),⟨(kn rfl),trivial⟩⟩) (AC rfl rfl rfl rfl rfl .nil)))))))))))) ?_
   try refine A2 ?_
   refine A1 (A9 rfl rfl rfl rfl rfl (A4 rfl rfl rfl (A6 rfl (kn rfl) (kn rfl) CE) .nil)) ?_
   try refine A2 ?_
   refine AA rfl (fun h3=>?_) (fun h3=>?_)
   ·rw[CR (by simpa using h3)]at hw
    rw[<- hw]at e
    try refine A2 ?_
    refine A1 (A9 rfl rfl rfl rfl rfl (AC rfl rfl rfl rfl rfl .nil)) ?_
    try refine A2 ?_
    exact A8 rfl rfl (.tmp (kn rfl) (.nil)) (Imp.of_eq (by rw[e];rfl)) rfl
   rw[DS (by simpa using h3)]at hw
   try refine A2 ?_
   refine A1 (A9 rfl rfl rfl rfl rfl (A4 rfl rfl rfl (A6 rfl (kn rfl) (kn rfl) (AS (by first | omega | (dsimp only;omega)))) (AC rfl rfl rfl rfl rfl .nil))) ?_
   try refine A2 ?_
   refine AR ⟨k+1,by omega,by omega,hw⟩ (by dsimp only;omega) (fun K=>AM ⟨s_t,s_t,s_t,trivial⟩ ⟨s_b,s_b,trivial⟩ trivial)
  ·have hge:(a.list).length<=k\/(b.list).length<=k:=by
    have:¬ (k<(a.list).length/\k<(b.list).length):=by simpa using h
    omega
   have hend:lcmp (a.list) (b.list)=ncmp (a.list).length (b.list).length:=by
    rw[<- hw,U2 _ _ (by rcases hge with h | h;exact .inl (List.drop_eq_nil_of_le h);exact .inr (List.drop_eq_nil_of_le h)),List.length_drop,List.length_drop,DB _ _ _ hk hk2]
   try refine A2 ?_
   rw[hend]at e
   refine A1 (A4 rfl rfl rfl (A0 rfl (kn rfl) off_40_5) (A4 rfl rfl rfl (A5 rfl (kn rfl) rfl rfl one_37) (A4 rfl rfl rfl (AT rfl (kn rfl) sle_37) (A4 rfl rfl rfl (H3 rfl (kn rfl) (by kernel_rfl) int_22 (by kernel_rfl) (FO _ (by omega) (by omega))) (A4 rfl rfl rfl (A0 rfl (kn rfl) off_40_5) (A4 rfl rfl rfl (A5 rfl (kn rfl) rfl rfl one_37) (A4 rfl rfl rfl (AT rfl (kn rfl) sle_37) (A4 rfl rfl rfl (H3 rfl (kn rfl) (by kernel_rfl) int_22 (by kernel_rfl) (FO _ (by omega) (by omega))) (A4 rfl rfl rfl (AE rfl (by kernel_rfl) (G3 a.list.length b.list.length) ⟨(kn rfl),⟨(kn rfl),trivial⟩⟩) (AC rfl rfl rfl rfl rfl .nil)))))))))) ?_
   try refine A2 ?_
   exact A8 rfl rfl (.tmp (kn rfl) (.nil)) (Imp.of_eq (by rw[e];rfl)) rfl
 have n4:=of_decide_eq_false q4
 try refine A2 ?_
 refine A1 (A4 rfl rfl rfl (A6 rfl (kn rfl) (kn rfl) AO) (AC rfl rfl rfl rfl rfl .nil)) ?_
 try refine A2 ?_
 refine AA rfl (fun q5=>?_) (fun q5=>?_)
 ·have e:vcmp a b=pcmp a.pairs b.pairs:=by rw[he];exact(if_neg n1).trans ((if_neg n2).trans ((if_neg n3).trans ((if_neg n4).trans (if_pos (of_decide_eq_true q5)))))
  try refine A2 ?_
  refine A1 (AC rfl rfl rfl rfl rfl .nil) ?_
  try refine A2 ?_
  refine BB (ι:={ k:Nat // k<=(a.pairs).length/\k<=(b.pairs).length/\pcmp ((a.pairs).drop k) ((b.pairs).drop k)=pcmp (a.pairs) (b.pairs) })
   (fun k=>[(2,.box 2 0),(3,.box 3 0),(10,.is (.int .i64 (k.1:Int)))])
   (fun _=>[(2,⟨40,bcs (vd a)⟩),(3,⟨40,bcs (vd b)⟩)]) (fun _=>[]) (fun k=>(a.pairs).length-k.1) ⟨0,by omega,by omega,by simp⟩
   (fun K=>AM ⟨s_t,s_t,s_t,trivial⟩ ⟨s_b,s_b,trivial⟩ trivial) ?_
  rintro⟨k,hk,hk2,hw⟩
  dsimp only at hk hk2 hw ⊢
  try refine A2 ?_
  refine A1 (A9 rfl rfl rfl rfl rfl (A4 rfl rfl rfl (A0 rfl (kn rfl) off_40_6) (A4 rfl rfl rfl (A5 rfl (kn rfl) rfl rfl one_38) (A4 rfl rfl rfl (AT rfl (kn rfl) sle_38) (A4 rfl rfl rfl (A6 rfl (kn rfl) (kn rfl) B7) (A9 rfl rfl rfl rfl rfl (Walk.gd _ rfl rfl rfl (fun h=>AW rfl (kn rfl)) (Walk.gd _ rfl rfl rfl (fun h=>A0 rfl (kn rfl) off_40_6) (Walk.gd _ rfl rfl rfl (fun h=>A5 rfl (A3 rfl h) rfl rfl one_38) (Walk.gd _ rfl rfl rfl (fun h=>AT rfl (A3 rfl h) sle_38) (Walk.gd _ rfl rfl rfl (fun h=>A6 rfl (A3 rfl h) (A3 rfl h) B7) (A4 rfl rfl rfl (AQ rfl (kn rfl) (fun hb=>A3 rfl hb)) .nil)))))))))))) ?_
  try refine A2 ?_
  refine AA rfl (fun h=>?_) (fun h=>?_)
  ·have hlt:k<(a.pairs).length/\k<(b.pairs).length:=by simpa using h
   obtain⟨x,hx⟩:∃ x,(a.pairs)[k]?=some x:=⟨_,List.getElem?_eq_getElem hlt.1⟩
   obtain⟨y,hy⟩:∃ y,(b.pairs)[k]?=some y:=⟨_,List.getElem?_eq_getElem hlt.2⟩
   rw[B6 hx,B6 hy,GY]at hw
   try refine A2 ?_
   refine CT C5 (by kernel_rfl) (A4 rfl rfl rfl (A0 rfl (kn rfl) off_40_6) (A4 rfl rfl rfl (A5 rfl (kn rfl) rfl rfl one_38) (A9 rfl rfl rfl rfl rfl (A4 rfl rfl rfl (AL rfl (kn rfl) (kn rfl) (by omega) hx BO sle_38 esz_38 (BS x)) (A4 rfl rfl rfl (AB rfl (kn rfl) off_103_0) (A4 rfl rfl rfl (GV 7 rfl (kn rfl) agg_40 sz_40 (Nat.le_of_ble_eq_true rfl)) (A4 rfl rfl rfl (A0 rfl (kn rfl) off_40_6) (A4 rfl rfl rfl (A5 rfl (kn rfl) rfl rfl one_38) (A9 rfl rfl rfl rfl rfl (A4 rfl rfl rfl (AL rfl (kn rfl) (kn rfl) (by omega) hy BO sle_38 esz_38 (BS y)) (A4 rfl rfl rfl (AB rfl (kn rfl) off_103_0) (A4 rfl rfl rfl (GV 7 rfl (kn rfl) agg_40 sz_40 (Nat.le_of_ble_eq_true rfl)) (A4 rfl rfl rfl (AE rfl (by kernel_rfl) ((hp x (List.mem_of_getElem? hx)).1 y.1 (hb.pair (List.mem_of_getElem? hy)).1) ⟨(kn rfl),⟨(kn rfl),trivial⟩⟩) (AC rfl rfl rfl rfl rfl .nil)))))))))))))) ?_
   try refine A2 ?_
   refine A1 (A9 rfl rfl rfl rfl rfl (A4 rfl rfl rfl (A6 rfl (kn rfl) (kn rfl) CE) .nil)) ?_
   try refine A2 ?_
   refine AA rfl (fun h3=>?_) (fun h3=>?_)
   ·rw[CR (by simpa using h3)]at hw
    rw[<- hw]at e
    try refine A2 ?_
    refine A1 (A9 rfl rfl rfl rfl rfl (AC rfl rfl rfl rfl rfl .nil)) ?_
    try refine A2 ?_
    exact A8 rfl rfl (.tmp (kn rfl) (.nil)) (Imp.of_eq (by rw[e];rfl)) rfl
   rw[DS (by simpa using h3)]at hw
   try refine A2 ?_
   refine CT C5 (by kernel_rfl) (A4 rfl rfl rfl (A0 rfl (kn rfl) off_40_6) (A4 rfl rfl rfl (A5 rfl (kn rfl) rfl rfl one_38) (A9 rfl rfl rfl rfl rfl (A4 rfl rfl rfl (AL rfl (kn rfl) (kn rfl) (by omega) hx BO sle_38 esz_38 (BS x)) (A4 rfl rfl rfl (AB rfl (kn rfl) off_103_1) (A4 rfl rfl rfl (AJ rfl (kn rfl) agg_40 sz_40) (A4 rfl rfl rfl (A0 rfl (kn rfl) off_40_6) (A4 rfl rfl rfl (A5 rfl (kn rfl) rfl rfl one_38) (A9 rfl rfl rfl rfl rfl (A4 rfl rfl rfl (AL rfl (kn rfl) (kn rfl) (by omega) hy BO sle_38 esz_38 (BS y)) (A4 rfl rfl rfl (AB rfl (kn rfl) off_103_1) (A4 rfl rfl rfl (AJ rfl (kn rfl) agg_40 sz_40) (A4 rfl rfl rfl (AE rfl (by kernel_rfl) ((hp x (List.mem_of_getElem? hx)).2 y.2 (hb.pair (List.mem_of_getElem? hy)).2) ⟨(kn rfl),⟨(kn rfl),trivial⟩⟩) (AC rfl rfl rfl rfl rfl .nil)))))))))))))) ?_
   try refine A2 ?_
   refine A1 (A9 rfl rfl rfl rfl rfl (A4 rfl rfl rfl (A6 rfl (kn rfl) (kn rfl) CE) .nil)) ?_
   try refine A2 ?_
   refine AA rfl (fun h4=>?_) (fun h4=>?_)
   ·rw[CR (by simpa using h4)]at hw
    rw[<- hw]at e
    try refine A2 ?_
    refine A1 (A9 rfl rfl rfl rfl rfl (AC rfl rfl rfl rfl rfl .nil)) ?_
    try refine A2 ?_
    exact A8 rfl rfl (.tmp (kn rfl) (.nil)) (Imp.of_eq (by rw[e];rfl)) rfl
   rw[DS (by simpa using h4)]at hw
   try refine A2 ?_
   refine A1 (A9 rfl rfl rfl rfl rfl (A4 rfl rfl rfl (A6 rfl (kn rfl) (kn rfl) (AS (by first | omega | (dsimp only;omega)))) (AC rfl rfl rfl rfl rfl .nil))) ?_
   try refine A2 ?_
   refine AR ⟨k+1,by omega,by omega,hw⟩ (by dsimp only;omega) (fun K=>AM ⟨s_t,s_t,s_t,trivial⟩ ⟨s_b,s_b,trivial⟩ trivial)
  ·have hge:(a.pairs).length<=k\/(b.pairs).length<=k:=by
    have:¬ (k<(a.pairs).length/\k<(b.pairs).length):=by simpa using h
    omega
   have hend:pcmp (a.pairs) (b.pairs)=ncmp (a.pairs).length (b.pairs).length:=by
    rw[<- hw,TI _ _ (by rcases hge with h | h;exact .inl (List.drop_eq_nil_of_le h);exact .inr (List.drop_eq_nil_of_le h)),List.length_drop,List.length_drop,DB _ _ _ hk hk2]
   try refine A2 ?_
   rw[hend]at e
   refine A1 (A4 rfl rfl rfl (A0 rfl (kn rfl) off_40_6) (A4 rfl rfl rfl (A5 rfl (kn rfl) rfl rfl one_38) (A4 rfl rfl rfl (AT rfl (kn rfl) sle_38) (A4 rfl rfl rfl (H3 rfl (kn rfl) (by kernel_rfl) int_22 (by kernel_rfl) (FO _ (by omega) (by omega))) (A4 rfl rfl rfl (A0 rfl (kn rfl) off_40_6) (A4 rfl rfl rfl (A5 rfl (kn rfl) rfl rfl one_38) (A4 rfl rfl rfl (AT rfl (kn rfl) sle_38) (A4 rfl rfl rfl (H3 rfl (kn rfl) (by kernel_rfl) int_22 (by kernel_rfl) (FO _ (by omega) (by omega))) (A4 rfl rfl rfl (AE rfl (by kernel_rfl) (G3 a.pairs.length b.pairs.length) ⟨(kn rfl),⟨(kn rfl),trivial⟩⟩) (AC rfl rfl rfl rfl rfl .nil)))))))))) ?_
   try refine A2 ?_
   exact A8 rfl rfl (.tmp (kn rfl) (.nil)) (Imp.of_eq (by rw[e];rfl)) rfl
 have n5:=of_decide_eq_false q5
 have e:vcmp a b=0:=by rw[he];exact(if_neg n1).trans ((if_neg n2).trans ((if_neg n3).trans ((if_neg n4).trans (if_neg n5))))
 try refine A2 ?_
 refine A1 (AC rfl rfl rfl rfl rfl .nil) ?_
 try refine A2 ?_
 exact A8 rfl rfl (.tmp (kn rfl) (.nil)) (Imp.of_eq (by rw[e];rfl)) rfl
theorem WA(a:Vl)(ha:a.Fine):QJ 56 a:=by
 revert ha
 refine Vl.parts (P:=fun a=>a.Fine->QJ 56 a) (fun v hf hl hp ha=>?_) a
 exact UN v ha (fun f h=>hf f h (ha.field h).2) (fun x h=>hl x h (ha.elem h)) (fun p h=>⟨(hp p h).1 (ha.pair h).1,(hp p h).2 (ha.pair h).2⟩)
theorem KC(a b:Vl)(ha:a.Fine)(hb:b.Fine):EF Try.prog [] 28 [.many (vd a),.many (vd b)] (.part (tP (decide (vcmp a b=0)))):=by
 refine AH 9 Try.func28 rfl rfl rfl fun w D=>?_
 try refine A2 ?_
 refine AF ?_
 refine BX 2 rfl rfl rfl rfl (kn rfl) rfl rfl rfl rfl ?_
 refine BX 3 rfl rfl rfl rfl (kn rfl) rfl rfl rfl rfl ?_
 refine BY ?_
 refine AD ?_
 try refine A2 ?_
 refine A1 (A4 rfl rfl rfl (A7 (ds:=[_,_,_,_,_,_,_]) 7 rfl (kn rfl) rfl rfl agg_40 sz_40 rfl) (A4 rfl rfl rfl (A7 (ds:=[_,_,_,_,_,_,_]) 7 rfl (kn rfl) rfl rfl agg_40 sz_40 rfl) (A4 rfl rfl rfl (AE rfl (by kernel_rfl) (WA a ha b hb) ⟨(kn rfl),⟨(kn rfl),trivial⟩⟩) (A4 rfl rfl rfl (A6 rfl (kn rfl) (kn rfl) AO) (AC rfl rfl rfl rfl rfl .nil))))) ?_
 try refine A2 ?_
 exact A8 rfl rfl (.tmp (kn rfl) (.nil)) (Imp.of_eq rfl) rfl
abbrev lP(l:List Vl):Part:=.one (.row 7 l.length (l.flatMap Vl.dats))
theorem QR(ps:List (Vl×Vl)):(D9 ps).length=2*ps.length:=by
 induction ps with
 | nil=>rfl
 | cons p ps ih=>rw[K4,List.length_cons,List.length_cons,ih,List.length_cons];omega
theorem TW(l:List Vl)(x:Vl):(l++[x]).flatMap Vl.dats=l.flatMap Vl.dats++vd x:=by rw[List.flatMap_append,<- DP];simp
theorem SW(v:Vl)(hn:vnodes v<=1000000):v.list.length+v.fields.length+2*v.pairs.length<=1000000:=by
 have h1:=HY (rkids v)
 have h2:=JO v
 have h3:(rkids v).length=v.list.length+v.fields.length+2*v.pairs.length:=by
  unfold rkids
  rw[List.length_append,List.length_append,List.length_map,QR]
 omega
inductive Vl.Tx:Vl->Prop where
 | mk (v:Vl):v.text.length<=400->v.rest.length<=400->(∀ x∈rkids v,Tx x)->Tx v
theorem Vl.Tx.kid{v x:Vl}(h:v.Tx)(hx:x∈rkids v):x.Tx:=by
 cases h with
 | mk v a b c=>exact c x hx
theorem TU{v x:Vl}:x∈rkids v↔x∈gkids v:=by
 unfold rkids gkids D9
 simp only[List.mem_append]
 constructor
 ·rintro((h | h) | h)
  ·exact .inr (.inl h)
  ·exact .inl h
  ·exact .inr (.inr h)
 ·rintro(h | h | h)
  ·exact .inl (.inr h)
  ·exact .inl (.inl h)
  ·exact .inr h
theorem Small.tx:∀ {d:Nat} {v:Vl},Small d v->v.Tx
 | 0,_,h=>by cases h
 | d+1,v,h=>by
  obtain⟨h1,h2,h3⟩:=h.parts
  exact .mk v h1 h2 fun x hx=>(h3 x (TU.1 hx)).tx
theorem W8{a:Bool}{k:Nat}(h:(a&&decide ((0:Int)<(k:Int)))=true):(0:Int)<=(k:Int)-1:=by
 have:=of_decide_eq_true (gr h)
 omega
theorem W6{b:Bool}(h:(!b)=true):b=false:=by cases b<;>first | rfl | cases h
theorem W2{b:Bool}(h:(!b)=false):b=true:=by cases b<;>first | rfl | cases h
theorem NS{α:Type}{l:List α}{k:Nat}(h:k<l.length):∃ x,l[((k:Int)-1).toNat]?=some x:=⟨_,List.getElem?_eq_getElem (by omega)⟩
def Vl.zero:Vl:=.mk 0 0 [] [] [] [] []
abbrev zB:List IV:=[.is (.int .i64 0),.is (.int .u64 0),.is (.string ⟨#[]⟩),.is (.slice none 0 0),.is (.string ⟨#[]⟩),.is (.slice none 0 0),.is (.slice none 0 0)]
end Go.Proofs.Ytecfdcdkkgmkpaa
