/- Part 12. Conditions: as each theorem says. -/
import Derived.Test.YtojdpgeeajaojaaGreatET11
import Derived.Test.YtojdpgeeajaojaaGreatProg
set_option maxRecDepth 100000
namespace Go.Proofs.YtojdpgeeajaojaaGreat
open Go.RowKit
theorem UM(v:Vl):(vd v).all Dat.isOne=true:=rfl
theorem QK(l:List Vl):(l.flatMap Vl.dats).all Dat.isOne=true:=by
 induction l with
 | nil=>rfl
 | cons v l ih=>rw[List.flatMap_cons,List.all_append,ih,CB,UM];rfl
abbrev lP(l:List Vl):Part:=.one (.row 7 l.length (l.flatMap Vl.dats))
theorem H5(ps:List (Vl×Vl)):(BV ps).length=2*ps.length:=by
 induction ps with
 | nil=>rfl
 | cons p ps ih=>rw[DP,List.length_cons,List.length_cons,ih,List.length_cons];omega
theorem O2{ps:List (Vl×Vl)}{k:Nat}{p:Vl×Vl}(h:ps[k]?=some p):BV (ps.take (k+1))=BV (ps.take k)++[p.1,p.2]:=by
 unfold BV
 rw[List.take_add_one,h,Option.toList_some,List.flatMap_append]
 rfl
theorem NN{fs:List (Int×Vl)}{k:Nat}{f:Int×Vl}(h:fs[k]?=some f):(fs.take (k+1)).map (·.2)=(fs.take k).map (·.2)++[f.2]:=by
 rw[List.take_add_one,h,Option.toList_some,List.map_append]
 rfl
theorem O5(l:List Vl)(x:Vl):(l++[x]).flatMap Vl.dats=l.flatMap Vl.dats++vd x:=by rw[List.flatMap_append,<- CB];simp
theorem SM(l:List Vl)(x y:Vl):(l++[x,y]).flatMap Vl.dats=l.flatMap Vl.dats++(vd x++vd y):=by rw[List.flatMap_append,<- CB,<- CB];simp
theorem I8(v:Vl)(hn:vnodes v<=1000000):v.list.length+v.fields.length+2*v.pairs.length<=1000000:=by
 have h1:=FI (rkids v)
 have h2:=FQ v
 have h3:(rkids v).length=v.list.length+v.fields.length+2*v.pairs.length:=by
  unfold rkids
  rw[List.length_append,List.length_append,List.length_map,H5]
 omega
set_option maxHeartbeats 4000000 in
theorem T4(v:Vl)(hn:vnodes v<=1000000):EF Tryz.prog [] 56 [.many (vd v)] (.part (lP (rkids v))):=by
 have hlen:=I8 v hn
 refine AG 41 Tryz.func56 rfl rfl rfl fun w D=>?_
 try refine A3 ?_
 refine AI ?_
 refine B9 1 rfl rfl rfl rfl (kn rfl) rfl rfl rfl rfl ?_
 refine BX ?_
 refine AM ?_
 try refine A3 ?_
 refine AI ?_
 refine OX 100 rfl rfl rfl rfl sl_36 ap_36 rfl rfl ?_
 refine AQ (A1 rfl (kn rfl) off_39_5) ?_
 refine AQ (A5 rfl (kn rfl) rfl rfl one_36) ?_
 refine CN rfl rfl rfl rfl (kn rfl) rfl (kn rfl) sl_36 ap_36 rfl (QK v.list) (by first | omega | (dsimp only;omega)) (by first | omega | (dsimp only;omega)) ?_
 refine BX ?_
 refine AM ?_
 try refine A3 ?_
 refine A2 (A4 rfl rfl rfl (A1 rfl (kn rfl) off_39_3) (A4 rfl rfl rfl (A5 rfl (kn rfl) rfl rfl one_35) (A4 rfl rfl rfl (AR rfl (kn rfl) sle_35) (A9 rfl rfl rfl rfl rfl .nil)))) ?_
 try refine A3 ?_
 refine AX (ι:={ k:Nat // k<=v.fields.length })
  (fun k=>[(1,.box 1 0),(3,.own 100),(13,.part (.one (.row 8 v.fields.length (v.fields.flatMap fieldDats)))),(14,.is (.int .i64 (v.fields.length:Int))),(15,.is (.int .i64 (k.1:Int)))])
  (fun _=>[(1,⟨39,bcs (vd v)⟩)]) (fun k=>[(100,⟨39,7,v.list.length+k.1,(v.list++(v.fields.take k.1).map (·.2)).flatMap Vl.dats,false⟩)])
  (fun k=>v.fields.length-k.1) ⟨0,by omega⟩
  (fun K=>AL ⟨s_t,s_t,s_t,s_t,s_t,trivial⟩ ⟨s_b,trivial⟩ ⟨EI rfl (by simp) (by simp),trivial⟩) ?_
 rintro⟨k,hk⟩
 dsimp only at hk ⊢
 try refine A3 ?_
 refine A2 (A4 rfl rfl rfl (A6 rfl (kn rfl) (kn rfl) AY) .nil) ?_
 try refine A3 ?_
 refine AB rfl (fun h=>?_) (fun h=>?_)
 ·have hlt:k<v.fields.length:=by have:=of_decide_eq_true h;omega
  obtain⟨x,hx⟩:∃ x,v.fields[k]?=some x:=⟨_,List.getElem?_eq_getElem hlt⟩
  have htk:=NN hx
  try refine A3 ?_
  refine AI ?_
  refine AQ (AJ rfl (kn rfl) (kn rfl) (by omega) hx B3 sle_35 esz_35 (B6 x)) ?_
  refine AQ (AH rfl (kn rfl) agg_81 sz_81) ?_
  refine AW 5 [.is (.int .i64 0),.is (.int .i64 0),.is (.int .u64 0),.is (.string ⟨#[]⟩),.is (.slice none 0 0),.is (.string ⟨#[]⟩),.is (.slice none 0 0),.is (.slice none 0 0)] rfl rfl rfl rfl zr_81 (fun w D M V=>⟨rfl,fun j x v h1 h2=>AV _ h1 h2 rfl⟩) rfl rfl rfl rfl ?_
  refine AT rfl rfl rfl (kn rfl) rfl (kn rfl) rfl rfl sz_81 ?_
  refine AM ?_
  try refine A3 ?_
  refine AI ?_
  refine D9 ?_
  refine AQ (A1 rfl (kn rfl) off_81_1) ?_
  refine AQ (A7 (ds:=[_,_,_,_,_,_,_]) 7 rfl (kn rfl) rfl rfl agg_39 sz_39 rfl) ?_
  refine AQ (BP (ds:=[_,_,_,_,_,_,_]) [(0,_)] rfl ⟨rfl,(kn rfl),trivial⟩ rfl sl_36 sz_39 zr_39 (fun w D=>.cons (.cell _) (.cons (.cell _) (.cons (.cell _) (.cons (.cell _) (.cons (.cell _) (.cons (.cell _) (.cons (.cell _) (.nil _ _)))))))) rfl rfl rfl rfl rfl) ?_
  refine CN rfl rfl rfl rfl (kn rfl) rfl (kn rfl) sl_36 ap_36 rfl rfl (by first | omega | (dsimp only;omega)) (by first | omega | (dsimp only;omega)) ?_
  refine BX ?_
  refine AM ?_
  try refine A3 ?_
  refine A2 (A4 rfl rfl rfl (A6 rfl (kn rfl) (kn rfl) (AK (by first | omega | (dsimp only;omega)))) (A9 rfl rfl rfl rfl rfl .nil)) ?_
  try refine A3 ?_
  refine AS ⟨k+1,by omega⟩ (by dsimp only;omega) (fun K=>AL ⟨s_t,s_t,s_t,s_t,s_t,trivial⟩ ⟨s_b,trivial⟩ ⟨EI rfl (by dsimp only;omega) (by rw[htk,<- List.append_assoc,O5];rfl),trivial⟩)
 obtain rfl:k=v.fields.length:=by have:=of_decide_eq_false h;omega
 try refine A3 ?_
 refine A2 (A4 rfl rfl rfl (A1 rfl (kn rfl) off_39_6) (A4 rfl rfl rfl (A5 rfl (kn rfl) rfl rfl one_37) (A4 rfl rfl rfl (AR rfl (kn rfl) sle_37) (A9 rfl rfl rfl rfl rfl .nil)))) ?_
 try refine A3 ?_
 refine AX (ι:={ k:Nat // k<=v.pairs.length })
  (fun k=>[(1,.box 1 0),(3,.own 100),(26,.part (.one (.row 14 v.pairs.length (v.pairs.flatMap pairDats)))),(27,.is (.int .i64 (v.pairs.length:Int))),(28,.is (.int .i64 (k.1:Int)))])
  (fun _=>[(1,⟨39,bcs (vd v)⟩)]) (fun k=>[(100,⟨39,7,v.list.length+v.fields.length+2*k.1,(v.list++v.fields.map (·.2)++BV (v.pairs.take k.1)).flatMap Vl.dats,false⟩)])
  (fun k=>v.pairs.length-k.1) ⟨0,by omega⟩
  (fun K=>AL ⟨s_t,s_t,s_t,s_t,s_t,trivial⟩ ⟨s_b,trivial⟩ ⟨EI rfl (by simp) (by simp[BV]),trivial⟩) ?_
 rintro⟨k,hk⟩
 dsimp only at hk ⊢
 try refine A3 ?_
 refine A2 (A4 rfl rfl rfl (A6 rfl (kn rfl) (kn rfl) AY) .nil) ?_
 try refine A3 ?_
 refine AB rfl (fun h=>?_) (fun h=>?_)
 ·have hlt:k<v.pairs.length:=by have:=of_decide_eq_true h;omega
  obtain⟨x,hx⟩:∃ x,v.pairs[k]?=some x:=⟨_,List.getElem?_eq_getElem hlt⟩
  have htk:=O2 hx
  try refine A3 ?_
  refine AI ?_
  refine AQ (AJ rfl (kn rfl) (kn rfl) (by omega) hx B5 sle_37 esz_37 (BA x)) ?_
  refine AQ (AH rfl (kn rfl) agg_85 sz_85) ?_
  refine AW 7 [.is (.int .i64 0),.is (.int .u64 0),.is (.string ⟨#[]⟩),.is (.slice none 0 0),.is (.string ⟨#[]⟩),.is (.slice none 0 0),.is (.slice none 0 0),.is (.int .i64 0),.is (.int .u64 0),.is (.string ⟨#[]⟩),.is (.slice none 0 0),.is (.string ⟨#[]⟩),.is (.slice none 0 0),.is (.slice none 0 0)] rfl rfl rfl rfl zr_85 (fun w D M V=>⟨rfl,fun j x v h1 h2=>AV _ h1 h2 rfl⟩) rfl rfl rfl rfl ?_
  refine AT rfl rfl rfl (kn rfl) rfl (kn rfl) rfl rfl sz_85 ?_
  refine AM ?_
  try refine A3 ?_
  refine AI ?_
  refine D9 ?_
  refine AQ (A1 rfl (kn rfl) off_85_0) ?_
  refine AQ (A7 (ds:=[_,_,_,_,_,_,_]) 7 rfl (kn rfl) rfl rfl agg_39 sz_39 rfl) ?_
  refine AQ (A1 rfl (kn rfl) off_85_1) ?_
  refine AQ (A7 (ds:=[_,_,_,_,_,_,_]) 7 rfl (kn rfl) rfl rfl agg_39 sz_39 rfl) ?_
  refine AQ (BP (ds:=[_,_,_,_,_,_,_,_,_,_,_,_,_,_]) [(0,_),(1,_)] rfl ⟨rfl,(kn rfl),⟨rfl,(kn rfl),trivial⟩⟩ rfl sl_36 sz_39 zr_39 (fun w D=>.cons (.cell _) (.cons (.cell _) (.cons (.cell _) (.cons (.cell _) (.cons (.cell _) (.cons (.cell _) (.cons (.cell _) (.cons (.cell _) (.cons (.cell _) (.cons (.cell _) (.cons (.cell _) (.cons (.cell _) (.cons (.cell _) (.cons (.cell _) (.nil _ _))))))))))))))) rfl rfl rfl rfl rfl) ?_
  refine CN rfl rfl rfl rfl (kn rfl) rfl (kn rfl) sl_36 ap_36 rfl rfl (by first | omega | (dsimp only;omega)) (by first | omega | (dsimp only;omega)) ?_
  refine BX ?_
  refine AM ?_
  try refine A3 ?_
  refine A2 (A4 rfl rfl rfl (A6 rfl (kn rfl) (kn rfl) (AK (by first | omega | (dsimp only;omega)))) (A9 rfl rfl rfl rfl rfl .nil)) ?_
  try refine A3 ?_
  refine AS ⟨k+1,by omega⟩ (by dsimp only;omega) (fun K=>AL ⟨s_t,s_t,s_t,s_t,s_t,trivial⟩ ⟨s_b,trivial⟩ ⟨EI rfl (by dsimp only;omega) (by rw[htk,<- List.append_assoc,SM];rfl),trivial⟩)
 obtain rfl:k=v.pairs.length:=by have:=of_decide_eq_false h;omega
 try refine A3 ?_
 refine A2 (A9 rfl rfl rfl rfl rfl (AC rfl rfl rfl rfl rfl .nil)) ?_
 try refine A3 ?_
 refine EN 2 100 rfl rfl rfl ?_
 have hkl:v.list.length+v.fields.length+2*v.pairs.length=(rkids v).length:=by unfold rkids;rw[List.length_append,List.length_append,List.length_map,H5]
 exact A8 rfl rfl (.tmp (kn rfl) (.nil)) (Imp.of_eq (by rw[List.take_length,hkl];rfl)) rfl
set_option maxHeartbeats 4000000 in
theorem QB(v:Vl)(hn:vnodes v<=1000000)(ih:∀ x∈rkids v,EF Tryz.prog [] 27 [.many (vd x)] (.part (iP (vsize x)))):EF Tryz.prog [] 27 [.many (vd v)] (.part (iP (vsize v))):=by
 have hlen:=FI (rkids v)
 have hnod:=FQ v
 refine AG 22 Tryz.func27 rfl rfl rfl fun w D=>?_
 try refine A3 ?_
 refine AI ?_
 refine B9 1 rfl rfl rfl rfl (kn rfl) rfl rfl rfl rfl ?_
 refine BX ?_
 refine AM ?_
 try refine A3 ?_
 refine A2 (A4 rfl rfl rfl (A1 rfl (kn rfl) off_39_0) (A4 rfl rfl rfl (A5 rfl (kn rfl) rfl rfl one_3) (A4 rfl rfl rfl (A6 rfl (kn rfl) (kn rfl) AP) .nil))) ?_
 try refine A3 ?_
 refine AB rfl (fun h=>?_) (fun h=>?_)
 ·have e:vsize v=0:=by rw[JU];exact if_pos (of_decide_eq_true h)
  try refine A3 ?_
  refine A2 (AC rfl rfl rfl rfl rfl .nil) ?_
  try refine A3 ?_
  exact A8 rfl rfl (.tmp (kn rfl) (.nil)) (Imp.of_eq (by rw[e];rfl)) rfl
 have e:vsize v=1+lsize (rkids v):=by rw[JU];exact if_neg (of_decide_eq_false h)
 have hsl:=HV (rkids v)
 try refine A3 ?_
 refine A2 (AC rfl rfl rfl rfl rfl .nil) ?_
 try refine A3 ?_
 refine A2 (A4 rfl rfl rfl (A7 (ds:=[_,_,_,_,_,_,_]) 7 rfl (kn rfl) rfl rfl agg_39 sz_39 rfl) (A4 rfl rfl rfl (AD rfl (by kernel_rfl) (T4 v hn) ⟨(kn rfl),trivial⟩) (A4 rfl rfl rfl (AR rfl (kn rfl) sle_36) (A9 rfl rfl rfl rfl rfl .nil)))) ?_
 try refine A3 ?_
 generalize rkids v=L at *
 refine AX (ι:={ k:Nat // k<=L.length })
  (fun k=>[(1,.box 1 0),(3,.is (.int .i64 (1+(lsize (L.take k.1):Int)))),(10,.part (lP L)),(11,.is (.int .i64 (L.length:Int))),(12,.is (.int .i64 (k.1:Int)))])
  (fun _=>[(1,⟨39,bcs (vd v)⟩)]) (fun _=>[]) (fun k=>L.length-k.1) ⟨0,by omega⟩
  (fun K=>AL ⟨s_t,⟨_,rfl,(Imp.of_eq (by simp[lsize]))⟩,s_t,s_t,s_t,trivial⟩ ⟨s_b,trivial⟩ trivial) ?_
 rintro⟨k,hk⟩
 dsimp only at hk ⊢
 try refine A3 ?_
 refine A2 (A4 rfl rfl rfl (A6 rfl (kn rfl) (kn rfl) AY) .nil) ?_
 try refine A3 ?_
 refine AB rfl (fun h=>?_) (fun h=>?_)
 ·have hlt:k<L.length:=by have:=of_decide_eq_true h;omega
  obtain⟨x,hx⟩:∃ x,L[k]?=some x:=⟨_,List.getElem?_eq_getElem hlt⟩
  have htk:=KE hx
  have hle:=HV (L.take (k+1))
  have hle2:=J5 L (k+1)
  try refine A3 ?_
  refine AI ?_
  refine AQ (AJ rfl (kn rfl) (kn rfl) (by omega) hx Vl.dats_len sle_36 esz_36 (CB x)) ?_
  refine AQ (AH rfl (kn rfl) agg_39 sz_39) ?_
  refine AW 5 [.is (.int .i64 0),.is (.int .u64 0),.is (.string ⟨#[]⟩),.is (.slice none 0 0),.is (.string ⟨#[]⟩),.is (.slice none 0 0),.is (.slice none 0 0)] rfl rfl rfl rfl zr_39 (fun w D M V=>⟨rfl,fun j x v h1 h2=>AV _ h1 h2 rfl⟩) rfl rfl rfl rfl ?_
  refine AT rfl rfl rfl (kn rfl) rfl (kn rfl) rfl rfl sz_39 ?_
  refine AM ?_
  try refine A3 ?_
  refine A2 (A9 rfl rfl rfl rfl rfl (A4 rfl rfl rfl (A7 (ds:=[_,_,_,_,_,_,_]) 7 rfl (kn rfl) rfl rfl agg_39 sz_39 rfl) (A4 rfl rfl rfl (AD rfl (by kernel_rfl) (ih x (List.mem_of_getElem? hx)) ⟨(kn rfl),trivial⟩) (A4 rfl rfl rfl (A6 rfl (kn rfl) (kn rfl) (AK (by first | omega | (dsimp only;omega)))) (AC rfl rfl rfl rfl rfl .nil))))) ?_
  try refine A3 ?_
  refine A2 (A4 rfl rfl rfl (A6 rfl (kn rfl) (kn rfl) (AK (by first | omega | (dsimp only;omega)))) (A9 rfl rfl rfl rfl rfl .nil)) ?_
  try refine A3 ?_
  refine AS ⟨k+1,by omega⟩ (by dsimp only;omega) (fun K=>AL ⟨s_t,⟨_,rfl,(Imp.of_eq (by rw[htk];simp[Int.add_assoc]))⟩,s_t,s_t,s_t,trivial⟩ ⟨s_b,trivial⟩ trivial)
 obtain rfl:k=L.length:=by have:=of_decide_eq_false h;omega
 rw[List.take_length]
 try refine A3 ?_
 refine A2 (A9 rfl rfl rfl rfl rfl (AC rfl rfl rfl rfl rfl .nil)) ?_
 try refine A3 ?_
 exact A8 rfl rfl (.tmp (kn rfl) (.nil)) (Imp.of_eq (by rw[e];simp;rfl)) rfl
theorem JC(v:Vl):vnodes v<=1000000->EF Tryz.prog [] 27 [.many (vd v)] (.part (iP (vsize v))):=
 I5 (P:=fun v=>vnodes v<=1000000->EF Tryz.prog [] 27 [.many (vd v)] (.part (iP (vsize v)))) (fun v ih hn=>QB v hn fun x hx=>ih x hx (by have:=(EP hx).2.2;omega)) v
inductive Vl.Tx:Vl->Prop where
 | mk (v:Vl):v.text.length<=400->v.rest.length<=400->(∀ x∈rkids v,Tx x)->Tx v
theorem Vl.Tx.texts{v:Vl}(h:v.Tx):v.text.length<=400/\v.rest.length<=400:=by
 cases h
 exact⟨‹_›,‹_›⟩
theorem Vl.Tx.kid{v x:Vl}(h:v.Tx)(hx:x∈rkids v):x.Tx:=by
 cases h with
 | mk v a b c=>exact c x hx
theorem SC{v x:Vl}:x∈rkids v↔x∈gkids v:=by
 unfold rkids gkids BV
 simp only[List.mem_append]
 constructor
 ·rintro((h | h) | h)
  ·exact .inr (.inl h)
  ·exact .inl h
  ·exact .inr (.inr h)
 ·rintro(h | h | h)
  ·exact .inl (.inr h)
  ·exact .inl (.inl h)
  ·exact .inr h
theorem Small.tx:∀ {d:Nat} {v:Vl},Small d v->v.Tx
 | 0,_,h=>by cases h
 | d+1,v,h=>by
  obtain⟨h1,h2,h3⟩:=h.parts
  exact .mk v h1 h2 fun x hx=>(h3 x (SC.1 hx)).tx
theorem RQ{a:Bool}{k:Nat}(h:(a&&decide ((0:Int)<(k:Int)))=true):(0:Int)<=(k:Int)-1:=by
 have:=of_decide_eq_true (gr h)
 omega
theorem UK{a:Bool}{k:Nat}(h:(decide ((0:Int)<(k:Int))&&a)=true):(0:Int)<=(k:Int)-1:=by
 have:=of_decide_eq_true (gl h)
 omega
theorem IK{b:Bool}(h:(!b)=true):b=false:=by cases b<;>first | rfl | cases h
theorem IU{b:Bool}(h:(!b)=false):b=true:=by cases b<;>first | rfl | cases h
theorem EC{α:Type}{l:List α}{k:Nat}(h:k<l.length):∃ x,l[((k:Int)-1).toNat]?=some x:=⟨_,List.getElem?_eq_getElem (by omega)⟩
def JN(fs:List (Int×Vl))(k:Nat):Int:=if k=0 then 0 else((fs[((k:Int)-1).toNat]?).getD (0,.mk 0 0 [] [] [] [] [])).1
theorem OU{fs:List (Int×Vl)}{k:Nat}{x:Int×Vl}(h:fs[k]?=some x):JN fs (k+1)=x.1:=by
 unfold JN
 rw[if_neg (by omega),show(((k+1:Nat):Int)-1).toNat=k by omega,h]
 rfl
theorem SB{fs:List (Int×Vl)}{k:Nat}{p:Int×Vl}(h:fs[((k:Int)-1).toNat]?=some p):JN fs k=if k=0 then 0 else p.1:=by
 unfold JN
 rw[h]
 rfl
def okP:Option Vl->Vl->Bool
 | none,_=>true
 | some q,k=>decide (q.kind=k.kind)&&decide (vcmp q k<0)
theorem NG(o:Option Vl)(x:Vl×Vl)(ps:List (Vl×Vl)):pright o (x::ps)=(decide (x.1.kind<=2)&&(vone x.1&&vright x.1)&&(vone x.2&&vright x.2)&&okP o x.1&&pright (some x.1) ps):=by
 obtain⟨k,x⟩:=x
 cases o<;>simp only[pright,okP,Bool.and_assoc]
theorem ON(o:Option Vl):pright o []=true:=by cases o<;>simp[pright]
def LQ(ps:List (Vl×Vl))(k:Nat):Option Vl:=if k=0 then none else(ps[((k:Int)-1).toNat]?).map (·.1)
theorem OP{ps:List (Vl×Vl)}{k:Nat}{x:Vl×Vl}(h:ps[k]?=some x):LQ ps (k+1)=some x.1:=by
 unfold LQ
 rw[if_neg (by omega),show(((k+1:Nat):Int)-1).toNat=k by omega,h]
 rfl
theorem R9{ps:List (Vl×Vl)}{k:Nat}{p:Vl×Vl}(h:ps[((k:Int)-1).toNat]?=some p):LQ ps k=if k=0 then none else some p.1:=by
 unfold LQ
 rw[h]
 rfl
theorem IF(v:Vl)(hR:EF Tryz.prog [] 21 [.many (vd v)] (.part (tP (vright v)))):EF Tryz.prog [] 46 [.many (vd v)] (.part (tP (vone v&&vright v))):=by
 refine AG 20 Tryz.func46 rfl rfl rfl fun w D=>?_
 try refine A3 ?_
 refine AI ?_
 refine B9 1 rfl rfl rfl rfl (kn rfl) rfl rfl rfl rfl ?_
 refine BX ?_
 refine AM ?_
 try refine A3 ?_
 refine A2 (A4 rfl rfl rfl (A1 rfl (kn rfl) off_39_0) (A4 rfl rfl rfl (A5 rfl (kn rfl) rfl rfl one_3) (A4 rfl rfl rfl (A6 rfl (kn rfl) (kn rfl) AP) (A9 rfl rfl rfl rfl rfl (Walk.gd _ rfl rfl rfl (fun h=>A1 rfl (kn rfl) off_39_0) (Walk.gd _ rfl rfl rfl (fun h=>A5 rfl (A0 rfl h) rfl rfl one_3) (Walk.gd _ rfl rfl rfl (fun h=>A6 rfl (A0 rfl h) (kn rfl) AP) (A4 rfl rfl rfl (BO rfl (kn rfl) (fun hb=>A0 rfl hb)) (A9 rfl rfl rfl rfl rfl (Walk.gd _ rfl rfl rfl (fun h=>A1 rfl (kn rfl) off_39_0) (Walk.gd _ rfl rfl rfl (fun h=>A5 rfl (A0 rfl h) rfl rfl one_3) (Walk.gd _ rfl rfl rfl (fun h=>A6 rfl (A0 rfl h) (kn rfl) AP) (A4 rfl rfl rfl (BO rfl (kn rfl) (fun hb=>A0 rfl hb)) (A9 rfl rfl rfl rfl rfl (Walk.gd _ rfl rfl rfl (fun h=>A7 (ds:=[_,_,_,_,_,_,_]) 7 rfl (kn rfl) rfl rfl agg_39 sz_39 rfl) (Walk.gd _ rfl rfl rfl (fun h=>AD rfl (by kernel_rfl) (hR) ⟨(A0 rfl h),trivial⟩) (A4 rfl rfl rfl (AO rfl (kn rfl) (fun hb=>A0 rfl hb)) (AC rfl rfl rfl rfl rfl .nil)))))))))))))))))) ?_
 try refine A3 ?_
 exact A8 rfl rfl (.tmp (kn rfl) (.nil)) (Imp.of_eq rfl) rfl
set_option maxHeartbeats 4000000 in
theorem OW(v:Vl)(hv:v.Fine)(ht:v.Tx)(hn:vnodes v<=1000000)(ih:∀ x∈rkids v,EF Tryz.prog [] 21 [.many (vd x)] (.part (tP (vright x)))):EF Tryz.prog [] 21 [.many (vd v)] (.part (tP (vright v))):=by
 have hlen:=I8 v hn
 have hmax:maxLen<=9223372036854775807:=by decide
 have htr:=ht.texts.2
 obtain⟨a1,a2,a3,a4,a5,a6,a7,a8⟩:=hv.bounds
 have e:=LG v
 have ihf:∀ f∈v.fields,f.2∈rkids v:=fun f h=>by unfold rkids;exact List.mem_append_left _ (List.mem_append_right _ (List.mem_map.2 ⟨f,h,rfl⟩))
 have ihl:∀ f∈v.list,f∈rkids v:=fun f h=>by unfold rkids;exact List.mem_append_left _ (List.mem_append_left _ h)
 have ihp:∀ p∈v.pairs,p.1∈rkids v/\p.2∈rkids v:=fun p h=>by
  unfold rkids BV
  exact⟨List.mem_append_right _ (List.mem_flatMap.2 ⟨p,h,by simp⟩),List.mem_append_right _ (List.mem_flatMap.2 ⟨p,h,by simp⟩)⟩
 refine AG 179 Tryz.func21 rfl rfl rfl fun w D=>?_
 try refine A3 ?_
 refine AI ?_
 refine B9 1 rfl rfl rfl rfl (kn rfl) rfl rfl rfl rfl ?_
 refine BX ?_
 refine AM ?_
 try refine A3 ?_
 refine A2 (A4 rfl rfl rfl (A1 rfl (kn rfl) off_39_0) (A4 rfl rfl rfl (A5 rfl (kn rfl) rfl rfl one_3) (A4 rfl rfl rfl (A6 rfl (kn rfl) (kn rfl) AY) (A9 rfl rfl rfl rfl rfl (Walk.gd _ rfl rfl rfl (fun h=>A1 rfl (kn rfl) off_39_0) (Walk.gd _ rfl rfl rfl (fun h=>A5 rfl (A0 rfl h) rfl rfl one_3) (Walk.gd _ rfl rfl rfl (fun h=>A6 rfl (A0 rfl h) (kn rfl) BN) (A4 rfl rfl rfl (BO rfl (kn rfl) (fun hb=>A0 rfl hb)) .nil)))))))) ?_
 try refine A3 ?_
 refine AB rfl (fun h=>?_) (fun h=>?_)
 ·have hv0:vplain v=false:=by
   simp only[Bool.or_eq_true,decide_eq_true_eq]at h
   cases hc:vplain v
   ·rfl
   ·have:=(KH v).1 hc
    omega
  try refine A3 ?_
  refine A2 (AC rfl rfl rfl rfl rfl .nil) ?_
  try refine A3 ?_
  exact A8 rfl rfl (.tmp (kn rfl) (.nil)) (Imp.of_eq (by rw[e,hv0];rfl)) rfl
 simp only[Bool.or_eq_false_iff,decide_eq_false_iff_not]at h
 try refine A3 ?_
 refine A2 (A4 rfl rfl rfl (A1 rfl (kn rfl) off_39_0) (A4 rfl rfl rfl (A5 rfl (kn rfl) rfl rfl one_3) (A4 rfl rfl rfl (A6 rfl (kn rfl) (kn rfl) BI) (A9 rfl rfl rfl rfl rfl (Walk.gd _ rfl rfl rfl (fun h=>A1 rfl (kn rfl) off_39_1) (Walk.gd _ rfl rfl rfl (fun h=>A5 rfl (A0 rfl h) rfl rfl one_22) (Walk.gd _ rfl rfl rfl (fun h=>A6 rfl (A0 rfl h) (kn rfl) BI) (A4 rfl rfl rfl (AO rfl (kn rfl) (fun hb=>A0 rfl hb)) (A9 rfl rfl rfl rfl rfl (Walk.gd _ rfl rfl rfl (fun h=>A1 rfl (kn rfl) off_39_0) (Walk.gd _ rfl rfl rfl (fun h=>A5 rfl (A0 rfl h) rfl rfl one_3) (Walk.gd _ rfl rfl rfl (fun h=>A6 rfl (A0 rfl h) (kn rfl) BI) (Walk.gd _ rfl rfl rfl (fun h=>AN rfl (A0 rfl h)) (Walk.gd _ rfl rfl rfl (fun h=>A1 rfl (kn rfl) off_39_2) (Walk.gd _ rfl rfl rfl (fun h=>A5 rfl (A0 rfl h) rfl rfl one_9) (Walk.gd _ rfl rfl rfl (fun h=>DB rfl (A0 rfl h) str_9) (Walk.gd _ rfl rfl rfl (fun h=>A6 rfl (A0 rfl h) (kn rfl) BN) (Walk.gd _ rfl rfl rfl (fun h=>AO rfl (A0 rfl h) (fun hb=>A0 rfl (gb h hb))) (A4 rfl rfl rfl (BO rfl (kn rfl) (fun hb=>A0 rfl hb)) (A9 rfl rfl rfl rfl rfl (Walk.gd _ rfl rfl rfl (fun h=>A1 rfl (kn rfl) off_39_0) (Walk.gd _ rfl rfl rfl (fun h=>A5 rfl (A0 rfl h) rfl rfl one_3) (Walk.gd _ rfl rfl rfl (fun h=>A6 rfl (A0 rfl h) (kn rfl) BI) (Walk.gd _ rfl rfl rfl (fun h=>AN rfl (A0 rfl h)) (Walk.gd _ rfl rfl rfl (fun h=>A1 rfl (kn rfl) off_39_3) (Walk.gd _ rfl rfl rfl (fun h=>A5 rfl (A0 rfl h) rfl rfl one_35) (Walk.gd _ rfl rfl rfl (fun h=>AR rfl (A0 rfl h) sle_35) (Walk.gd _ rfl rfl rfl (fun h=>A1 rfl (kn rfl) off_39_4) (Walk.gd _ rfl rfl rfl (fun h=>A5 rfl (A0 rfl h) rfl rfl one_9) (Walk.gd _ rfl rfl rfl (fun h=>DB rfl (A0 rfl h) str_9) (Walk.gd _ rfl rfl rfl (fun h=>A6 rfl (A0 rfl h) (A0 rfl h) (AK (by first | omega | (dsimp only;omega)))) (Walk.gd _ rfl rfl rfl (fun h=>A6 rfl (A0 rfl h) (kn rfl) BN) (Walk.gd _ rfl rfl rfl (fun h=>AO rfl (A0 rfl h) (fun hb=>A0 rfl (gb h hb))) (A4 rfl rfl rfl (BO rfl (kn rfl) (fun hb=>A0 rfl hb)) (A9 rfl rfl rfl rfl rfl (Walk.gd _ rfl rfl rfl (fun h=>A1 rfl (kn rfl) off_39_0) (Walk.gd _ rfl rfl rfl (fun h=>A5 rfl (A0 rfl h) rfl rfl one_3) (Walk.gd _ rfl rfl rfl (fun h=>A6 rfl (A0 rfl h) (kn rfl) AP) (Walk.gd _ rfl rfl rfl (fun h=>A1 rfl (kn rfl) off_39_5) (Walk.gd _ rfl rfl rfl (fun h=>A5 rfl (A0 rfl h) rfl rfl one_36) (Walk.gd _ rfl rfl rfl (fun h=>AR rfl (A0 rfl h) sle_36) (Walk.gd _ rfl rfl rfl (fun h=>A6 rfl (A0 rfl h) (kn rfl) BN) (Walk.gd _ rfl rfl rfl (fun h=>A6 rfl (A0 rfl h) (A0 rfl h) (S8 bool_4)) (A4 rfl rfl rfl (BO rfl (kn rfl) (fun hb=>A0 rfl hb)) (A9 rfl rfl rfl rfl rfl (Walk.gd _ rfl rfl rfl (fun h=>A1 rfl (kn rfl) off_39_0) (Walk.gd _ rfl rfl rfl (fun h=>A5 rfl (A0 rfl h) rfl rfl one_3) (Walk.gd _ rfl rfl rfl (fun h=>A6 rfl (A0 rfl h) (kn rfl) AP) (Walk.gd _ rfl rfl rfl (fun h=>A1 rfl (kn rfl) off_39_6) (Walk.gd _ rfl rfl rfl (fun h=>A5 rfl (A0 rfl h) rfl rfl one_37) (Walk.gd _ rfl rfl rfl (fun h=>AR rfl (A0 rfl h) sle_37) (Walk.gd _ rfl rfl rfl (fun h=>A6 rfl (A0 rfl h) (kn rfl) BN) (Walk.gd _ rfl rfl rfl (fun h=>A6 rfl (A0 rfl h) (A0 rfl h) (S8 bool_4)) (A4 rfl rfl rfl (BO rfl (kn rfl) (fun hb=>A0 rfl hb)) .nil)))))))))))))))))))))))))))))))))))))))))))))))))))))) ?_
 try refine A3 ?_
 refine AB rfl (fun h2=>?_) (fun h2=>?_)
 ·have hv0:vplain v=false:=by
   cases hc:vplain v
   ·rfl
   ·simp only[vplain,Bool.and_eq_true,Bool.or_eq_true,decide_eq_true_eq,beq_iff_eq,decide_eq_decide]at hc
    simp only[Bool.or_eq_true,Bool.and_eq_true,Bool.not_eq_true',decide_eq_true_eq,decide_eq_false_iff_not,bne_iff_ne,ne_eq,decide_eq_decide]at h2
    omega
  try refine A3 ?_
  refine A2 (AC rfl rfl rfl rfl rfl .nil) ?_
  try refine A3 ?_
  exact A8 rfl rfl (.tmp (kn rfl) (.nil)) (Imp.of_eq (by rw[e,hv0];rfl)) rfl
 have hv1:vplain v=true:=by
  simp only[Bool.or_eq_false_iff,Bool.and_eq_false_iff,Bool.not_eq_false',decide_eq_true_eq,decide_eq_false_iff_not,bne_eq_false_iff_eq,decide_eq_decide]at h2
  simp only[vplain,Bool.and_eq_true,Bool.or_eq_true,decide_eq_true_eq,beq_iff_eq,decide_eq_decide]
  omega
 rw[hv1,Bool.true_and]at e
 clear hv1 h h2
 try refine A3 ?_
 refine A2 (A4 rfl rfl rfl (A1 rfl (kn rfl) off_39_3) (A4 rfl rfl rfl (A5 rfl (kn rfl) rfl rfl one_35) (A4 rfl rfl rfl (AR rfl (kn rfl) sle_35) (A9 rfl rfl rfl rfl rfl .nil)))) ?_
 try refine A3 ?_
 refine AX (ι:={ k:Nat // k<=v.fields.length/\fright (JN v.fields k) (v.fields.drop k)=fright 0 v.fields })
  (fun k=>[(1,.box 1 0),(72,.part (.one (.row 8 v.fields.length (v.fields.flatMap fieldDats)))),(73,.is (.int .i64 (v.fields.length:Int))),(74,.is (.int .i64 (k.1:Int)))])
  (fun _=>[(1,⟨39,bcs (vd v)⟩)]) (fun _=>[]) (fun k=>v.fields.length-k.1) ⟨0,by omega,by simp[JN]⟩
  (fun K=>AL ⟨s_t,s_t,s_t,s_t,trivial⟩ ⟨s_b,trivial⟩ trivial) ?_
 rintro⟨k,hk,hw⟩
 dsimp only at hk hw ⊢
 try refine A3 ?_
 refine A2 (A4 rfl rfl rfl (A6 rfl (kn rfl) (kn rfl) AY) .nil) ?_
 try refine A3 ?_
 refine AB rfl (fun h=>?_) (fun h=>?_)
 ·have hlt:k<v.fields.length:=by have:=of_decide_eq_true h;omega
  obtain⟨x,hx⟩:∃ x,v.fields[k]?=some x:=⟨_,List.getElem?_eq_getElem hlt⟩
  obtain⟨p,hp⟩:=EC hlt
  have hpf:=SB hp
  have hnx:=OU hx
  rw[BC hx,fright]at hw
  have hwx:(decide (1<=x.1)&&decide (x.1<=536870911)&&decide (JN v.fields k<x.1)&&decide (x.2.kind≠0)&&vright x.2&&fright x.1 (v.fields.drop (k+1)))=fright 0 v.fields:=hw
  clear hw
  try refine A3 ?_
  refine AI ?_
  refine D9 ?_
  refine AQ (AJ rfl (kn rfl) (kn rfl) (by omega) hx B3 sle_35 esz_35 (B6 x)) ?_
  refine AQ (AH rfl (kn rfl) agg_81 sz_81) ?_
  refine AW 4 [.is (.int .i64 0),.is (.int .i64 0),.is (.int .u64 0),.is (.string ⟨#[]⟩),.is (.slice none 0 0),.is (.string ⟨#[]⟩),.is (.slice none 0 0),.is (.slice none 0 0)] rfl rfl rfl rfl zr_81 (fun w D M V=>⟨rfl,fun j x v h1 h2=>AV _ h1 h2 rfl⟩) rfl rfl rfl rfl ?_
  refine BX ?_
  refine AT rfl rfl rfl (kn rfl) rfl (kn rfl) rfl rfl sz_81 ?_
  refine AM ?_
  try refine A3 ?_
  refine BD BF (by kernel_rfl) (A4 rfl rfl rfl (A1 rfl (kn rfl) off_81_0) (A4 rfl rfl rfl (A5 rfl (kn rfl) rfl rfl one_3) (A4 rfl rfl rfl (A6 rfl (kn rfl) (kn rfl) AY) (A9 rfl rfl rfl rfl rfl (Walk.gd _ rfl rfl rfl (fun h=>A1 rfl (kn rfl) off_81_0) (Walk.gd _ rfl rfl rfl (fun h=>A5 rfl (A0 rfl h) rfl rfl one_3) (Walk.gd _ rfl rfl rfl (fun h=>A6 rfl (A0 rfl h) (kn rfl) BN) (A4 rfl rfl rfl (BO rfl (kn rfl) (fun hb=>A0 rfl hb)) (A9 rfl rfl rfl rfl rfl (Walk.gd _ rfl rfl rfl (fun h=>AN rfl (kn rfl)) (Walk.gd _ rfl rfl rfl (fun h=>A6 rfl (A0 rfl h) (kn rfl) BN) (Walk.gd _ rfl rfl rfl (fun h=>AN rfl (A0 rfl h)) (Walk.gd _ rfl rfl rfl (fun h=>A1 rfl (kn rfl) off_39_3) (Walk.gd _ rfl rfl rfl (fun h=>A5 rfl (A0 rfl h) rfl rfl one_35) (Walk.gd _ rfl rfl rfl (fun h=>AN rfl (kn rfl)) (Walk.gd _ rfl rfl rfl (fun h=>A6 rfl (A0 rfl h) (kn rfl) (CV (by first | omega | (dsimp only;omega)))) (Walk.gd _ rfl rfl rfl (fun h=>AJ rfl (A0 rfl h) (A0 rfl h) (RQ h) hp B3 sle_35 esz_35 (B6 p)) (Walk.gd _ rfl rfl rfl (fun h=>AA rfl (A0 rfl h) off_81_0) (Walk.gd _ rfl rfl rfl (fun h=>AF rfl (A0 rfl h) one_3) (Walk.gd _ rfl rfl rfl (fun h=>A1 rfl (kn rfl) off_81_0) (Walk.gd _ rfl rfl rfl (fun h=>A5 rfl (A0 rfl h) rfl rfl one_3) (Walk.gd _ rfl rfl rfl (fun h=>A6 rfl (A0 rfl h) (A0 rfl h) CM) (Walk.gd _ rfl rfl rfl (fun h=>AO rfl (A0 rfl h) (fun hb=>A0 rfl (gb h hb))) (A4 rfl rfl rfl (BO rfl (kn rfl) (fun hb=>A0 rfl hb)) (A9 rfl rfl rfl rfl rfl (Walk.gd _ rfl rfl rfl (fun h=>A1 rfl (kn rfl) off_81_1) (Walk.gd _ rfl rfl rfl (fun h=>A1 rfl (A0 rfl h) off_39_0) (Walk.gd _ rfl rfl rfl (fun h=>A5 rfl (A0 rfl h) rfl rfl one_3) (Walk.gd _ rfl rfl rfl (fun h=>A6 rfl (A0 rfl h) (kn rfl) AP) (A4 rfl rfl rfl (BO rfl (kn rfl) (fun hb=>A0 rfl hb)) (A9 rfl rfl rfl rfl rfl (Walk.gd _ rfl rfl rfl (fun h=>A1 rfl (kn rfl) off_81_1) (Walk.gd _ rfl rfl rfl (fun h=>A7 (ds:=[_,_,_,_,_,_,_]) 7 rfl (A0 rfl h) rfl rfl agg_39 sz_39 rfl) (Walk.gd _ rfl rfl rfl (fun h=>AD rfl (by kernel_rfl) (ih x.2 (ihf x (List.mem_of_getElem? hx))) ⟨(A0 rfl h),trivial⟩) (Walk.gd _ rfl rfl rfl (fun h=>BZ rfl (A0 rfl h)) (A4 rfl rfl rfl (BO rfl (kn rfl) (fun hb=>A0 rfl hb)) .nil)))))))))))))))))))))))))))))))))))) ?_
  try refine A3 ?_
  refine AB rfl (fun h1=>?_) (fun h1=>?_)
  ·have hf:fright 0 v.fields=false:=by
    rw[<- hwx,hpf]
    simp only[Bool.or_eq_true,Bool.and_eq_true,Bool.not_eq_true',decide_eq_true_eq]at h1
    cases hr:vright x.2
    ·simp
    ·rw[hr]at h1
     simp only[Bool.true_eq_false,or_false]at h1
     simp only[Bool.and_eq_false_iff,decide_eq_false_iff_not]
     refine .inl (.inl ?_)
     by_cases hk0:k=0
     ·rw[if_pos hk0];omega
     ·rw[if_neg hk0];omega
   try refine A3 ?_
   refine A2 (AC rfl rfl rfl rfl rfl .nil) ?_
   try refine A3 ?_
   exact A8 rfl rfl (.tmp (kn rfl) (.nil)) (Imp.of_eq (by rw[e,hf];rfl)) rfl
  have hf:fright x.1 (v.fields.drop (k+1))=fright 0 v.fields:=by
   rw[<- hwx,hpf]
   simp only[Bool.or_eq_false_iff,Bool.and_eq_false_iff,Bool.not_eq_false',decide_eq_false_iff_not]at h1
   obtain⟨⟨⟨⟨g1,g2⟩,g3⟩,g4⟩,g5⟩:=h1
   rw[g5,decide_eq_true (show 1<=x.1 by omega),decide_eq_true (show x.1<=536870911 by omega),decide_eq_true (show x.2.kind≠0 from g4),decide_eq_true (show(if k=0 then 0 else p.1)<x.1 by
    by_cases hk0:k=0
    ·rw[if_pos hk0];omega
    ·rw[if_neg hk0];omega)]
   rfl
  try refine A3 ?_
  refine A2 (A4 rfl rfl rfl (A6 rfl (kn rfl) (kn rfl) (AK (by first | omega | (dsimp only;omega)))) (A9 rfl rfl rfl rfl rfl .nil)) ?_
  try refine A3 ?_
  refine AS ⟨k+1,by omega,by rw[hnx];exact hf⟩ (by dsimp only;omega) (fun K=>AL ⟨s_t,s_t,s_t,s_t,trivial⟩ ⟨s_b,trivial⟩ trivial)
 obtain rfl:k=v.fields.length:=by have:=of_decide_eq_false h;omega
 rw[List.drop_length,fright]at hw
 rw[<- hw,Bool.true_and]at e
 clear hw
 try refine A3 ?_
 refine A2 (A4 rfl rfl rfl (A1 rfl (kn rfl) off_39_5) (A4 rfl rfl rfl (A5 rfl (kn rfl) rfl rfl one_36) (A4 rfl rfl rfl (AR rfl (kn rfl) sle_36) (A9 rfl rfl rfl rfl rfl .nil)))) ?_
 try refine A3 ?_
 refine AX (ι:={ k:Nat // k<=v.list.length/\lright (v.list.drop k)=lright v.list })
  (fun k=>[(1,.box 1 0),(117,.part (lP v.list)),(118,.is (.int .i64 (v.list.length:Int))),(119,.is (.int .i64 (k.1:Int)))])
  (fun _=>[(1,⟨39,bcs (vd v)⟩)]) (fun _=>[]) (fun k=>v.list.length-k.1) ⟨0,by omega,by simp⟩
  (fun K=>AL ⟨s_t,s_t,s_t,s_t,trivial⟩ ⟨s_b,trivial⟩ trivial) ?_
 rintro⟨k,hk,hw⟩
 dsimp only at hk hw ⊢
 try refine A3 ?_
 refine A2 (A4 rfl rfl rfl (A6 rfl (kn rfl) (kn rfl) AY) .nil) ?_
 try refine A3 ?_
 refine AB rfl (fun h=>?_) (fun h=>?_)
 ·have hlt:k<v.list.length:=by have:=of_decide_eq_true h;omega
  obtain⟨x,hx⟩:∃ x,v.list[k]?=some x:=⟨_,List.getElem?_eq_getElem hlt⟩
  rw[BC hx,lright]at hw
  try refine A3 ?_
  refine AI ?_
  refine AQ (AJ rfl (kn rfl) (kn rfl) (by omega) hx Vl.dats_len sle_36 esz_36 (CB x)) ?_
  refine AQ (AH rfl (kn rfl) agg_39 sz_39) ?_
  refine AW 6 [.is (.int .i64 0),.is (.int .u64 0),.is (.string ⟨#[]⟩),.is (.slice none 0 0),.is (.string ⟨#[]⟩),.is (.slice none 0 0),.is (.slice none 0 0)] rfl rfl rfl rfl zr_39 (fun w D M V=>⟨rfl,fun j x v h1 h2=>AV _ h1 h2 rfl⟩) rfl rfl rfl rfl ?_
  refine AT rfl rfl rfl (kn rfl) rfl (kn rfl) rfl rfl sz_39 ?_
  refine AM ?_
  try refine A3 ?_
  refine A2 (A4 rfl rfl rfl (A7 (ds:=[_,_,_,_,_,_,_]) 7 rfl (kn rfl) rfl rfl agg_39 sz_39 rfl) (A4 rfl rfl rfl (AD rfl (by kernel_rfl) (IF x (ih x (ihl x (List.mem_of_getElem? hx)))) ⟨(kn rfl),trivial⟩) (A4 rfl rfl rfl (BZ rfl (kn rfl)) .nil))) ?_
  try refine A3 ?_
  refine AB rfl (fun h1=>?_) (fun h1=>?_)
  ·have hf:lright v.list=false:=by
    rw[<- hw,IK h1]
    rfl
   try refine A3 ?_
   refine A2 (AC rfl rfl rfl rfl rfl .nil) ?_
   try refine A3 ?_
   exact A8 rfl rfl (.tmp (kn rfl) (.nil)) (Imp.of_eq (by rw[e,hf];rfl)) rfl
  rw[IU h1,Bool.true_and]at hw
  try refine A3 ?_
  refine A2 (A4 rfl rfl rfl (A6 rfl (kn rfl) (kn rfl) (AK (by first | omega | (dsimp only;omega)))) (A9 rfl rfl rfl rfl rfl .nil)) ?_
  try refine A3 ?_
  refine AS ⟨k+1,by omega,hw⟩ (by dsimp only;omega) (fun K=>AL ⟨s_t,s_t,s_t,s_t,trivial⟩ ⟨s_b,trivial⟩ trivial)
 obtain rfl:k=v.list.length:=by have:=of_decide_eq_false h;omega
 rw[List.drop_length,lright]at hw
 rw[<- hw,Bool.true_and]at e
 clear hw
 try refine A3 ?_
 refine A2 (A4 rfl rfl rfl (A1 rfl (kn rfl) off_39_6) (A4 rfl rfl rfl (A5 rfl (kn rfl) rfl rfl one_37) (A4 rfl rfl rfl (AR rfl (kn rfl) sle_37) (A9 rfl rfl rfl rfl rfl .nil)))) ?_
 try refine A3 ?_
 refine AX (ι:={ k:Nat // k<=v.pairs.length/\pright (LQ v.pairs k) (v.pairs.drop k)=pright none v.pairs /\ ∀ (i:Nat) p q,i<k->v.pairs[i]?=some p->v.pairs[0]?=some q->p.1.kind=q.1.kind })
  (fun k=>[(1,.box 1 0),(128,.part (.one (.row 14 v.pairs.length (v.pairs.flatMap pairDats)))),(129,.is (.int .i64 (v.pairs.length:Int))),(130,.is (.int .i64 (k.1:Int)))])
  (fun _=>[(1,⟨39,bcs (vd v)⟩)]) (fun _=>[]) (fun k=>v.pairs.length-k.1) ⟨0,by omega,by simp[LQ],fun i p q h=>by omega⟩
  (fun K=>AL ⟨s_t,s_t,s_t,s_t,trivial⟩ ⟨s_b,trivial⟩ trivial) ?_
 rintro⟨k,hk,hw,hs⟩
 dsimp only at hk hw hs ⊢
 try refine A3 ?_
 refine A2 (A4 rfl rfl rfl (A6 rfl (kn rfl) (kn rfl) AY) .nil) ?_
 try refine A3 ?_
 refine AB rfl (fun h=>?_) (fun h=>?_)
 ·have hlt:k<v.pairs.length:=by have:=of_decide_eq_true h;omega
  obtain⟨x,hx⟩:∃ x,v.pairs[k]?=some x:=⟨_,List.getElem?_eq_getElem hlt⟩
  obtain⟨p,hp⟩:=EC hlt
  obtain⟨q,hq⟩:∃ q,v.pairs[0]?=some q:=⟨_,List.getElem?_eq_getElem (by omega)⟩
  have hpf:=R9 hp
  have hnx:=OP hx
  have hmx:=List.mem_of_getElem? hx
  have hmp:=List.mem_of_getElem? hp
  rw[BC hx,NG]at hw
  try refine A3 ?_
  refine AI ?_
  refine D9 ?_
  refine AQ (AJ rfl (kn rfl) (kn rfl) (by omega) hx B5 sle_37 esz_37 (BA x)) ?_
  refine AQ (AH rfl (kn rfl) agg_85 sz_85) ?_
  refine AW 8 [.is (.int .i64 0),.is (.int .u64 0),.is (.string ⟨#[]⟩),.is (.slice none 0 0),.is (.string ⟨#[]⟩),.is (.slice none 0 0),.is (.slice none 0 0),.is (.int .i64 0),.is (.int .u64 0),.is (.string ⟨#[]⟩),.is (.slice none 0 0),.is (.string ⟨#[]⟩),.is (.slice none 0 0),.is (.slice none 0 0)] rfl rfl rfl rfl zr_85 (fun w D M V=>⟨rfl,fun j x v h1 h2=>AV _ h1 h2 rfl⟩) rfl rfl rfl rfl ?_
  refine BX ?_
  refine AT rfl rfl rfl (kn rfl) rfl (kn rfl) rfl rfl sz_85 ?_
  refine AM ?_
  try refine A3 ?_
  refine A2 (A4 rfl rfl rfl (A1 rfl (kn rfl) off_85_0) (A4 rfl rfl rfl (A1 rfl (kn rfl) off_39_0) (A4 rfl rfl rfl (A5 rfl (kn rfl) rfl rfl one_3) (A4 rfl rfl rfl (A6 rfl (kn rfl) (kn rfl) BN) (A9 rfl rfl rfl rfl rfl (Walk.gd _ rfl rfl rfl (fun h=>A1 rfl (kn rfl) off_85_0) (Walk.gd _ rfl rfl rfl (fun h=>A7 (ds:=[_,_,_,_,_,_,_]) 7 rfl (A0 rfl h) rfl rfl agg_39 sz_39 rfl) (Walk.gd _ rfl rfl rfl (fun h=>AD rfl (by kernel_rfl) (IF x.1 (ih x.1 (ihp x hmx).1)) ⟨(A0 rfl h),trivial⟩) (Walk.gd _ rfl rfl rfl (fun h=>BZ rfl (A0 rfl h)) (A4 rfl rfl rfl (BO rfl (kn rfl) (fun hb=>A0 rfl hb)) (A9 rfl rfl rfl rfl rfl (Walk.gd _ rfl rfl rfl (fun h=>A1 rfl (kn rfl) off_85_1) (Walk.gd _ rfl rfl rfl (fun h=>A7 (ds:=[_,_,_,_,_,_,_]) 7 rfl (A0 rfl h) rfl rfl agg_39 sz_39 rfl) (Walk.gd _ rfl rfl rfl (fun h=>AD rfl (by kernel_rfl) (IF x.2 (ih x.2 (ihp x hmx).2)) ⟨(A0 rfl h),trivial⟩) (Walk.gd _ rfl rfl rfl (fun h=>BZ rfl (A0 rfl h)) (A4 rfl rfl rfl (BO rfl (kn rfl) (fun hb=>A0 rfl hb)) .nil)))))))))))))))) ?_
  try refine A3 ?_
  refine AB rfl (fun h1=>?_) (fun h1=>?_)
  ·have hf:pright none v.pairs=false:=by
    rw[<- hw]
    simp only[Bool.or_eq_true,Bool.not_eq_true',decide_eq_true_eq]at h1
    rcases h1 with(h1 | h1) | h1
    ·rw[decide_eq_false (show ¬ x.1.kind<=2 by omega)];rfl
    ·rw[h1];simp
    ·rw[h1];simp
   try refine A3 ?_
   refine A2 (AC rfl rfl rfl rfl rfl .nil) ?_
   try refine A3 ?_
   exact A8 rfl rfl (.tmp (kn rfl) (.nil)) (Imp.of_eq (by rw[e,hf];rfl)) rfl
  simp only[Bool.or_eq_false_iff,Bool.not_eq_false',decide_eq_false_iff_not]at h1
  obtain⟨⟨g1,g2⟩,g3⟩:=h1
  rw[g2,g3,decide_eq_true (show x.1.kind<=2 by omega),hpf]at hw
  try refine A3 ?_
  refine BD BF (by kernel_rfl) (A9 rfl rfl rfl rfl rfl (A4 rfl rfl rfl (A6 rfl (kn rfl) (kn rfl) BN) (A9 rfl rfl rfl rfl rfl (Walk.gd _ rfl rfl rfl (fun h=>A1 rfl (kn rfl) off_39_6) (Walk.gd _ rfl rfl rfl (fun h=>A5 rfl (A0 rfl h) rfl rfl one_37) (Walk.gd _ rfl rfl rfl (fun h=>AJ rfl (A0 rfl h) (kn rfl) (by omega) hq B5 sle_37 esz_37 (BA q)) (Walk.gd _ rfl rfl rfl (fun h=>AA rfl (A0 rfl h) off_85_0) (Walk.gd _ rfl rfl rfl (fun h=>AA rfl (A0 rfl h) off_39_0) (Walk.gd _ rfl rfl rfl (fun h=>AF rfl (A0 rfl h) one_3) (Walk.gd _ rfl rfl rfl (fun h=>A1 rfl (kn rfl) off_85_0) (Walk.gd _ rfl rfl rfl (fun h=>A1 rfl (A0 rfl h) off_39_0) (Walk.gd _ rfl rfl rfl (fun h=>A5 rfl (A0 rfl h) rfl rfl one_3) (Walk.gd _ rfl rfl rfl (fun h=>A6 rfl (A0 rfl h) (A0 rfl h) BI) (Walk.gd _ rfl rfl rfl (fun h=>AN rfl (A0 rfl h)) (Walk.gd _ rfl rfl rfl (fun h=>A1 rfl (kn rfl) off_39_6) (Walk.gd _ rfl rfl rfl (fun h=>A5 rfl (A0 rfl h) rfl rfl one_37) (Walk.gd _ rfl rfl rfl (fun h=>AN rfl (kn rfl)) (Walk.gd _ rfl rfl rfl (fun h=>A6 rfl (A0 rfl h) (kn rfl) (CV (by first | omega | (dsimp only;omega)))) (Walk.gd _ rfl rfl rfl (fun h=>AJ rfl (A0 rfl h) (A0 rfl h) (UK h) hp B5 sle_37 esz_37 (BA p)) (Walk.gd _ rfl rfl rfl (fun h=>AA rfl (A0 rfl h) off_85_0) (Walk.gd _ rfl rfl rfl (fun h=>EE 7 rfl (A0 rfl h) agg_39 sz_39 (Nat.le_of_ble_eq_true rfl)) (Walk.gd _ rfl rfl rfl (fun h=>A1 rfl (kn rfl) off_85_0) (Walk.gd _ rfl rfl rfl (fun h=>A7 (ds:=[_,_,_,_,_,_,_]) 7 rfl (A0 rfl h) rfl rfl agg_39 sz_39 rfl) (Walk.gd _ rfl rfl rfl (fun h=>AD rfl (by kernel_rfl) (OT p.1 (hv.pair hmp).1 x.1 (hv.pair hmx).1) ⟨(A0 rfl h),⟨(A0 rfl h),trivial⟩⟩) (Walk.gd _ rfl rfl rfl (fun h=>A6 rfl (A0 rfl h) (kn rfl) CM) (Walk.gd _ rfl rfl rfl (fun h=>BO rfl (A0 rfl h) (fun hb=>A0 rfl (gb h hb))) (A4 rfl rfl rfl (AO rfl (kn rfl) (fun hb=>A0 rfl hb)) .nil))))))))))))))))))))))))))) ?_
  try refine A3 ?_
  refine AB rfl (fun h2=>?_) (fun h2=>?_)
  ·have hf:pright none v.pairs=false:=by
    simp only[Bool.or_eq_true,Bool.and_eq_true,Bool.not_eq_true',decide_eq_true_eq,decide_eq_false_iff_not]at h2
    obtain⟨h3,h4⟩:=h2
    have hk0:¬ k=0:=by omega
    have hpq:=hs ((k:Int)-1).toNat p q (by omega) hp hq
    rw[<- hw,if_neg hk0,okP]
    rcases h4 with h4 | h4
    ·rw[decide_eq_false (show ¬ p.1.kind=x.1.kind from fun e=>h4 (by rw[<- e];exact hpq.symm))];rfl
    ·rw[decide_eq_false (show ¬ vcmp p.1 x.1<0 by omega)];simp
   try refine A3 ?_
   refine A2 (AC rfl rfl rfl rfl rfl .nil) ?_
   try refine A3 ?_
   exact A8 rfl rfl (.tmp (kn rfl) (.nil)) (Imp.of_eq (by rw[e,hf];rfl)) rfl
  have hf:pright (some x.1) (v.pairs.drop (k+1))=pright none v.pairs/\x.1.kind=q.1.kind:=by
   simp only[Bool.or_eq_false_iff,Bool.and_eq_false_iff,Bool.not_eq_false',decide_eq_true_eq,decide_eq_false_iff_not]at h2
   by_cases hk0:k=0
   ·subst hk0
    rw[hx]at hq
    obtain rfl:=Option.some.inj hq
    rw[if_pos rfl,okP]at hw
    exact⟨by simpa using hw,rfl⟩
   ·have hpq:=hs ((k:Int)-1).toNat p q (by omega) hp hq
    rcases h2 with h2 | ⟨h2,h3⟩
    ·omega
    ·rw[if_neg hk0,okP]at hw
     rw[decide_eq_true (show p.1.kind=x.1.kind from hpq.trans h2),decide_eq_true (show vcmp p.1 x.1<0 by omega)]at hw
     exact⟨by simpa using hw,h2.symm⟩
  try refine A3 ?_
  refine A2 (A4 rfl rfl rfl (A6 rfl (kn rfl) (kn rfl) (AK (by first | omega | (dsimp only;omega)))) (A9 rfl rfl rfl rfl rfl .nil)) ?_
  try refine A3 ?_
  refine AS ⟨k+1,by omega,by rw[hnx];exact hf.1,fun i p' q' hi hp' hq'=>by
   rw[hq]at hq'
   obtain rfl:=Option.some.inj hq'
   rcases Nat.lt_or_ge i k with h | h
   ·exact hs i p' q h hp' hq
   ·obtain rfl:i=k:=by omega
    rw[hx]at hp'
    obtain rfl:=Option.some.inj hp'
    exact hf.2⟩ (by dsimp only;omega) (fun K=>AL ⟨s_t,s_t,s_t,s_t,trivial⟩ ⟨s_b,trivial⟩ trivial)
 obtain rfl:k=v.pairs.length:=by have:=of_decide_eq_false h;omega
 rw[List.drop_length,ON]at hw
 rw[<- hw]at e
 try refine A3 ?_
 refine A2 (AC rfl rfl rfl rfl rfl .nil) ?_
 try refine A3 ?_
 exact A8 rfl rfl (.tmp (kn rfl) (.nil)) (Imp.of_eq (by rw[e];rfl)) rfl
theorem FV(v:Vl)(hv:v.Fine)(ht:v.Tx)(hn:vnodes v<=1000000):EF Tryz.prog [] 21 [.many (vd v)] (.part (tP (vright v))):=by
 revert hv ht hn
 refine I5 (P:=fun v=>v.Fine->v.Tx->vnodes v<=1000000->EF Tryz.prog [] 21 [.many (vd v)] (.part (tP (vright v)))) (fun v ih hv ht hn=>?_) v
 exact OW v hv ht hn fun x hx=>ih x hx ((EP hx).2.1 hv) (ht.kid hx) (by have:=(EP hx).2.2;omega)
def Vl.zero:Vl:=.mk 0 0 [] [] [] [] []
end Go.Proofs.YtojdpgeeajaojaaGreat
