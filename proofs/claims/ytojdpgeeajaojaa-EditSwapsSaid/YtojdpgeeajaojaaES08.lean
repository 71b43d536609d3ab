/- Part 8. Conditions: as each theorem says. -/
import Derived.Test.YtojdpgeeajaojaaES07
import Derived.Test.YtojdpgeeajaojaaProg
set_option maxRecDepth 100000
namespace Go.Proofs.Ytojdpgeeajaojaa
open Go.RowKit
theorem one_3:oneT Try.prog 3=true:=by kernel_rfl
theorem sz_3:sizeT Try.prog 3=some 1:=by kernel_rfl
theorem zr_3:CB Try.prog 3=some [.int .i64 0]:=by kernel_rfl
theorem one_4:oneT Try.prog 4=true:=by kernel_rfl
theorem sz_4:sizeT Try.prog 4=some 1:=by kernel_rfl
theorem bool_4:Try.prog.underlying 4=some .bool:=by kernel_rfl
theorem one_9:oneT Try.prog 9=true:=by kernel_rfl
theorem sz_9:sizeT Try.prog 9=some 1:=by kernel_rfl
theorem str_9:Try.prog.underlying 9=some .string:=by kernel_rfl
theorem one_22:oneT Try.prog 22=true:=by kernel_rfl
theorem sz_22:sizeT Try.prog 22=some 1:=by kernel_rfl
theorem one_23:oneT Try.prog 23=true:=by kernel_rfl
theorem sz_23:sizeT Try.prog 23=some 1:=by kernel_rfl
theorem sle_23:Try.prog.underlying 23=some (.slice (Try.prog.elem 23)):=by kernel_rfl
theorem esz_23:sizeT Try.prog (Try.prog.elem 23)=some 8:=by kernel_rfl
theorem one_24:oneT Try.prog 24=true:=by kernel_rfl
theorem sz_24:sizeT Try.prog 24=some 1:=by kernel_rfl
theorem sle_24:Try.prog.underlying 24=some (.slice (Try.prog.elem 24)):=by kernel_rfl
theorem esz_24:sizeT Try.prog (Try.prog.elem 24)=some 7:=by kernel_rfl
theorem one_25:oneT Try.prog 25=true:=by kernel_rfl
theorem sz_25:sizeT Try.prog 25=some 1:=by kernel_rfl
theorem sle_25:Try.prog.underlying 25=some (.slice (Try.prog.elem 25)):=by kernel_rfl
theorem esz_25:sizeT Try.prog (Try.prog.elem 25)=some 14:=by kernel_rfl
theorem agg_27:aggT Try.prog 27=true:=by kernel_rfl
theorem sz_27:sizeT Try.prog 27=some 7:=by kernel_rfl
theorem off_27_0:C3 Try.prog 27 0=some 0:=by kernel_rfl
theorem off_27_1:C3 Try.prog 27 1=some 1:=by kernel_rfl
theorem off_27_2:C3 Try.prog 27 2=some 2:=by kernel_rfl
theorem off_27_3:C3 Try.prog 27 3=some 3:=by kernel_rfl
theorem off_27_4:C3 Try.prog 27 4=some 4:=by kernel_rfl
theorem off_27_5:C3 Try.prog 27 5=some 5:=by kernel_rfl
theorem off_27_6:C3 Try.prog 27 6=some 6:=by kernel_rfl
theorem pl_27:FB Try.prog 27=some [(0,1),(1,1),(2,1),(3,1),(4,1),(5,1),(6,1)]:=by kernel_rfl
theorem zr_27:CB Try.prog 27=some [.int .i64 0,.int .u64 0,.string ⟨#[]⟩,.slice none 0 0,.string ⟨#[]⟩,.slice none 0 0,.slice none 0 0]:=by kernel_rfl
theorem one_31:oneT Try.prog 31=true:=by kernel_rfl
theorem sz_31:sizeT Try.prog 31=some 1:=by kernel_rfl
theorem sle_31:Try.prog.underlying 31=some (.slice (Try.prog.elem 31)):=by kernel_rfl
theorem esz_31:sizeT Try.prog (Try.prog.elem 31)=some 22:=by kernel_rfl
theorem one_32:oneT Try.prog 32=true:=by kernel_rfl
theorem sz_32:sizeT Try.prog 32=some 1:=by kernel_rfl
theorem sle_32:Try.prog.underlying 32=some (.slice (Try.prog.elem 32)):=by kernel_rfl
theorem esz_32:sizeT Try.prog (Try.prog.elem 32)=some 30:=by kernel_rfl
theorem one_33:oneT Try.prog 33=true:=by kernel_rfl
theorem sz_33:sizeT Try.prog 33=some 1:=by kernel_rfl
theorem sle_33:Try.prog.underlying 33=some (.slice (Try.prog.elem 33)):=by kernel_rfl
theorem esz_33:sizeT Try.prog (Try.prog.elem 33)=some 28:=by kernel_rfl
theorem agg_35:aggT Try.prog 35=true:=by kernel_rfl
theorem sz_35:sizeT Try.prog 35=some 21:=by kernel_rfl
theorem off_35_0:C3 Try.prog 35 0=some 0:=by kernel_rfl
theorem off_35_1:C3 Try.prog 35 1=some 1:=by kernel_rfl
theorem off_35_2:C3 Try.prog 35 2=some 8:=by kernel_rfl
theorem off_35_3:C3 Try.prog 35 3=some 15:=by kernel_rfl
theorem off_35_4:C3 Try.prog 35 4=some 16:=by kernel_rfl
theorem off_35_5:C3 Try.prog 35 5=some 17:=by kernel_rfl
theorem off_35_6:C3 Try.prog 35 6=some 18:=by kernel_rfl
theorem off_35_7:C3 Try.prog 35 7=some 19:=by kernel_rfl
theorem off_35_8:C3 Try.prog 35 8=some 20:=by kernel_rfl
theorem pl_35:FB Try.prog 35=some [(0,1),(1,7),(8,7),(15,1),(16,1),(17,1),(18,1),(19,1),(20,1)]:=by kernel_rfl
theorem zr_35:CB Try.prog 35=some [.int .i64 0,.int .i64 0,.int .u64 0,.string ⟨#[]⟩,.slice none 0 0,.string ⟨#[]⟩,.slice none 0 0,.slice none 0 0,.int .i64 0,.int .u64 0,.string ⟨#[]⟩,.slice none 0 0,.string ⟨#[]⟩,.slice none 0 0,.slice none 0 0,.slice none 0 0,.bool false,.string ⟨#[]⟩,.string ⟨#[]⟩,.slice none 0 0,.slice none 0 0]:=by kernel_rfl
theorem agg_44:aggT Try.prog 44=true:=by kernel_rfl
theorem sz_44:sizeT Try.prog 44=some 8:=by kernel_rfl
theorem off_44_0:C3 Try.prog 44 0=some 0:=by kernel_rfl
theorem off_44_1:C3 Try.prog 44 1=some 1:=by kernel_rfl
theorem zr_44:CB Try.prog 44=some [.int .i64 0,.int .i64 0,.int .u64 0,.string ⟨#[]⟩,.slice none 0 0,.string ⟨#[]⟩,.slice none 0 0,.slice none 0 0]:=by kernel_rfl
theorem agg_55:aggT Try.prog 55=true:=by kernel_rfl
theorem sz_55:sizeT Try.prog 55=some 14:=by kernel_rfl
theorem off_55_0:C3 Try.prog 55 0=some 0:=by kernel_rfl
theorem off_55_1:C3 Try.prog 55 1=some 7:=by kernel_rfl
theorem zr_55:CB Try.prog 55=some [.int .i64 0,.int .u64 0,.string ⟨#[]⟩,.slice none 0 0,.string ⟨#[]⟩,.slice none 0 0,.slice none 0 0,.int .i64 0,.int .u64 0,.string ⟨#[]⟩,.slice none 0 0,.string ⟨#[]⟩,.slice none 0 0,.slice none 0 0]:=by kernel_rfl
theorem off_65_0:C3 Try.prog 65 0=some 0:=by kernel_rfl
theorem off_65_1:C3 Try.prog 65 1=some 1:=by kernel_rfl
theorem agg_71:aggT Try.prog 71=true:=by kernel_rfl
theorem sz_71:sizeT Try.prog 71=some 30:=by kernel_rfl
theorem off_71_0:C3 Try.prog 71 0=some 0:=by kernel_rfl
theorem off_71_1:C3 Try.prog 71 1=some 1:=by kernel_rfl
theorem off_71_2:C3 Try.prog 71 2=some 2:=by kernel_rfl
theorem off_71_3:C3 Try.prog 71 3=some 9:=by kernel_rfl
theorem zr_71:CB Try.prog 71=some [.int .i64 0,.int .i64 0,.int .i64 0,.int .u64 0,.string ⟨#[]⟩,.slice none 0 0,.string ⟨#[]⟩,.slice none 0 0,.slice none 0 0,.int .i64 0,.int .i64 0,.int .u64 0,.string ⟨#[]⟩,.slice none 0 0,.string ⟨#[]⟩,.slice none 0 0,.slice none 0 0,.int .i64 0,.int .u64 0,.string ⟨#[]⟩,.slice none 0 0,.string ⟨#[]⟩,.slice none 0 0,.slice none 0 0,.slice none 0 0,.bool false,.string ⟨#[]⟩,.string ⟨#[]⟩,.slice none 0 0,.slice none 0 0]:=by kernel_rfl
theorem off_78_0:C3 Try.prog 78 0=some 0:=by kernel_rfl
theorem off_78_1:C3 Try.prog 78 1=some 7:=by kernel_rfl
theorem sl_98:Try.prog.underlying 98=some (.slice 3):=by kernel_rfl
theorem sle_98:Try.prog.underlying 98=some (.slice (Try.prog.elem 98)):=by kernel_rfl
theorem esz_98:sizeT Try.prog (Try.prog.elem 98)=some 1:=by kernel_rfl
theorem C0:Try.prog.follows .mixedOrders=true:=by kernel_rfl
def vd(v:Vl):List Dat:=[.cell (.int .i64 v.kind),.cell (.int .u64 (v.num:Int)),.cell (.string (str v.text)),.row 8 v.fields.length (v.fields.flatMap fieldDats),.cell (.string (str v.rest)),.row 7 v.list.length (v.list.flatMap Vl.dats),.row 14 v.pairs.length (v.pairs.flatMap pairDats)]
theorem CI(v:Vl):v.dats=vd v:=v.dats_eq
theorem BU(f:Int×Vl):fieldDats f=.cell (.int .i64 f.1)::vd f.2:=by unfold fieldDats;rw[CI]
theorem BR(p:Vl×Vl):pairDats p=vd p.1++vd p.2:=by unfold pairDats;rw[CI,CI]
abbrev iP(z:Int):Part:=.one (.cell (.int .i64 z))
abbrev uP(n:Nat):Part:=.one (.cell (.int .u64 (n:Int)))
abbrev sP(l:List UInt8):Part:=.one (.cell (.string (str l)))
abbrev tP(b:Bool):Part:=.one (.cell (.bool b))
theorem GQ{a b:Nat}(h:a<b):ncmp a b = -1:=if_pos h
theorem GR{a b:Nat}(h:b<a):ncmp a b=1:=(if_neg (by omega)).trans (if_pos h)
theorem GP{a b:Nat}(h:a=b):ncmp a b=0:=(if_neg (by omega)).trans (if_neg (by omega))
theorem OZ{a b:Int}(h:a<b):CQ a b = -1:=if_pos h
theorem OW{a b:Int}(h:b<a):CQ a b=1:=(if_neg (by omega)).trans (if_pos h)
theorem MD{a b:Int}(h:a=b):CQ a b=0:=(if_neg (by omega)).trans (if_neg (by omega))
theorem F3{x y:Int}(h:x≠0):lex x y=x:=if_pos h
theorem EA{x y:Int}(h:x=0):lex x y=y:=if_neg (by omega)
theorem LU(ps:List (Vl×Vl)):(BQ ps).length=2*ps.length:=by
 induction ps with
 | nil=>rfl
 | cons p ps ih=>rw[D5,List.length_cons,List.length_cons,ih,List.length_cons];omega
inductive Vl.Tx:Vl->Prop where
 | mk (v:Vl):v.text.length<=400->v.rest.length<=400->(∀ x∈rkids v,Tx x)->Tx v
theorem Vl.Tx.kid{v x:Vl}(h:v.Tx)(hx:x∈rkids v):x.Tx:=by
 cases h with
 | mk v a b c=>exact c x hx
theorem NU{v x:Vl}:x∈rkids v↔x∈gkids v:=by
 unfold rkids gkids BQ
 simp only[List.mem_append]
 constructor
 ·rintro((h | h) | h)
  ·exact .inr (.inl h)
  ·exact .inl h
  ·exact .inr (.inr h)
 ·rintro(h | h | h)
  ·exact .inl (.inr h)
  ·exact .inl (.inl h)
  ·exact .inr h
theorem Small.tx:∀ {d:Nat} {v:Vl},Small d v->v.Tx
 | 0,_,h=>by cases h
 | d+1,v,h=>by
  obtain⟨h1,h2,h3⟩:=h.parts
  exact .mk v h1 h2 fun x hx=>(h3 x (NU.1 hx)).tx
theorem PT{a:Bool}{k:Nat}(h:(a&&decide ((0:Int)<(k:Int)))=true):(0:Int)<=(k:Int)-1:=by
 have:=of_decide_eq_true (gr h)
 omega
theorem KQ{b:Bool}(h:(!b)=true):b=false:=by cases b<;>first | rfl | cases h
theorem K4{b:Bool}(h:(!b)=false):b=true:=by cases b<;>first | rfl | cases h
theorem J4{α:Type}{l:List α}{k:Nat}(h:k<l.length):∃ x,l[((k:Int)-1).toNat]?=some x:=⟨_,List.getElem?_eq_getElem (by omega)⟩
def Vl.zero:Vl:=.mk 0 0 [] [] [] [] []
theorem MI{P:Program}{t:TypeId}(d:Nat)(h:d<=1000):EZ P .sub t (.int .i64 ((d+1:Nat):Int)) (.int .i64 1) (.int .i64 (d:Int)):=by
 have:=DO (P:=P) (t:=t) (m:=((d+1:Nat):Int)) (n:=1) (by omega)
 rwa [show((d+1:Nat):Int)-1=(d:Int) by omega]at this
theorem EK{g:Vl->Int->Int}{l:Int}{x:Vl}(h:0<=l):B9 g l x=g x l:=if_pos h
theorem E3{g:Vl->Int->Int}{l:Int}{x:Vl}(h:¬ 0<=l):B9 g l x=l:=if_neg h
def JD(d:Nat):Prop:=∀ (v:Vl) (left:Int),v.Fine->0<=left->left<=1000000->EF Try.prog [] 12 [.many (vd v),iP left,iP (d:Int)] (.part (iP (AY d v left)))
theorem LQ:JD 0:=by
 intro v left hv h0 h1
 refine AF 85 Try.func12 rfl rfl rfl fun w D=>?_
 try refine A2 ?_
 refine AI ?_
 refine BB 3 rfl rfl rfl rfl (kn rfl) rfl rfl rfl rfl ?_
 refine CM ?_
 refine AN ?_
 try refine A2 ?_
 refine A0 (A8 rfl rfl rfl rfl rfl (A3 rfl rfl rfl (A9 rfl (kn rfl) (kn rfl) AK) (A8 rfl rfl rfl rfl rfl (Walk.gd _ rfl rfl rfl (fun h=>A4 rfl (kn rfl) off_27_2) (Walk.gd _ rfl rfl rfl (fun h=>A6 rfl (A1 rfl h) rfl rfl one_9) (Walk.gd _ rfl rfl rfl (fun h=>J7 rfl (A1 rfl h) str_9) (Walk.gd _ rfl rfl rfl (fun h=>A9 rfl (A1 rfl h) (kn rfl) DG) (A3 rfl rfl rfl (GO rfl (kn rfl) (fun hb=>A1 rfl hb)) (A8 rfl rfl rfl rfl rfl (Walk.gd _ rfl rfl rfl (fun h=>A4 rfl (kn rfl) off_27_4) (Walk.gd _ rfl rfl rfl (fun h=>A6 rfl (A1 rfl h) rfl rfl one_9) (Walk.gd _ rfl rfl rfl (fun h=>J7 rfl (A1 rfl h) str_9) (Walk.gd _ rfl rfl rfl (fun h=>A9 rfl (A1 rfl h) (kn rfl) DG) (A3 rfl rfl rfl (GO rfl (kn rfl) (fun hb=>A1 rfl hb)) .nil)))))))))))))) ?_
 try refine A2 ?_
 refine AE rfl (fun h=>?_) (fun h=>?_)
 ·try refine A2 ?_
  refine A0 (AD rfl rfl rfl rfl rfl .nil) ?_
  try refine A2 ?_
  exact A7 rfl rfl (.tmp (kn rfl) (.nil)) (Imp.of_eq rfl) rfl
 ·simp at h
set_option maxHeartbeats 4000000 in
theorem LS(d:Nat)(hd:d<=1000)(ih:JD d):JD (d+1):=by
 intro v left hv h0 h1
 have hmax:maxLen<=9223372036854775807:=by decide
 obtain⟨a1,a2,a3,a4,a5,a6,a7,a8⟩:=hv.bounds
 have hgb:∀ (xs:List Vl) (l:Int),-1<=l -> -1<=xs.foldl (B9 (AY d)) l/\xs.foldl (B9 (AY d)) l<=l:=fun xs l h=>FG (AY d) (fun x l hl=>EO d x l hl) xs l h
 have e:¬ (400<v.text.length\/400<v.rest.length)->AY (d+1) v left=(BQ v.pairs).foldl (B9 (AY d)) (v.list.foldl (B9 (AY d)) ((v.fields.map (·.2)).foldl (B9 (AY d)) (left-1))):=fun h=>by
  rw[AY,if_neg h,gkids,List.foldl_append,List.foldl_append]
  rfl
 refine AF 85 Try.func12 rfl rfl rfl fun w D=>?_
 try refine A2 ?_
 refine AI ?_
 refine BB 3 rfl rfl rfl rfl (kn rfl) rfl rfl rfl rfl ?_
 refine CM ?_
 refine AN ?_
 try refine A2 ?_
 refine A0 (A8 rfl rfl rfl rfl rfl (A3 rfl rfl rfl (A9 rfl (kn rfl) (kn rfl) AK) (A8 rfl rfl rfl rfl rfl (Walk.gd _ rfl rfl rfl (fun h=>A4 rfl (kn rfl) off_27_2) (Walk.gd _ rfl rfl rfl (fun h=>A6 rfl (A1 rfl h) rfl rfl one_9) (Walk.gd _ rfl rfl rfl (fun h=>J7 rfl (A1 rfl h) str_9) (Walk.gd _ rfl rfl rfl (fun h=>A9 rfl (A1 rfl h) (kn rfl) DG) (A3 rfl rfl rfl (GO rfl (kn rfl) (fun hb=>A1 rfl hb)) (A8 rfl rfl rfl rfl rfl (Walk.gd _ rfl rfl rfl (fun h=>A4 rfl (kn rfl) off_27_4) (Walk.gd _ rfl rfl rfl (fun h=>A6 rfl (A1 rfl h) rfl rfl one_9) (Walk.gd _ rfl rfl rfl (fun h=>J7 rfl (A1 rfl h) str_9) (Walk.gd _ rfl rfl rfl (fun h=>A9 rfl (A1 rfl h) (kn rfl) DG) (A3 rfl rfl rfl (GO rfl (kn rfl) (fun hb=>A1 rfl hb)) .nil)))))))))))))) ?_
 try refine A2 ?_
 refine AE rfl (fun h=>?_) (fun h=>?_)
 ·have e2:AY (d+1) v left = -1:=by
   simp only[Bool.or_eq_true,decide_eq_true_eq]at h
   rw[AY]
   exact if_pos (by omega)
  try refine A2 ?_
  refine A0 (AD rfl rfl rfl rfl rfl .nil) ?_
  try refine A2 ?_
  exact A7 rfl rfl (.tmp (kn rfl) (.nil)) (Imp.of_eq (by rw[e2];rfl)) rfl
 have e2:=e (by
  simp only[Bool.or_eq_false_iff,decide_eq_false_iff_not]at h
  omega)
 clear e h
 try refine A2 ?_
 refine A0 (A8 rfl rfl rfl rfl rfl (A3 rfl rfl rfl (A9 rfl (kn rfl) (kn rfl) (DO (by first | omega | (dsimp only;omega)))) (AD rfl rfl rfl rfl rfl .nil))) ?_
 try refine A2 ?_
 refine A0 (A3 rfl rfl rfl (A4 rfl (kn rfl) off_27_3) (A3 rfl rfl rfl (A6 rfl (kn rfl) rfl rfl one_23) (A3 rfl rfl rfl (AS rfl (kn rfl) sle_23) (A8 rfl rfl rfl rfl rfl .nil)))) ?_
 try refine A2 ?_
 refine BC (ι:={ k:Nat // k<=(v.fields).length })
  (fun k=>[(1,.is (.int .i64 ((fun k=>((v.fields.map (·.2)).take k).foldl (B9 (AY d)) (left-1)) k.1))),(2,.is (.int .i64 ((d+1:Nat):Int))),(3,.box 3 0),(30,.part (.one (.row 8 (v.fields).length ((v.fields).flatMap fieldDats)))),(31,.is (.int .i64 ((v.fields).length:Int))),(32,.is (.int .i64 (k.1:Int)))])
  (fun _=>[(3,⟨27,bcs (vd v)⟩)]) (fun _=>[]) (fun k=>(v.fields).length-k.1) ⟨0,by omega⟩
  (fun K=>AP ⟨s_t,s_t,s_t,s_t,s_t,s_t,trivial⟩ ⟨s_b,trivial⟩ trivial) ?_
 rintro⟨k,hk⟩
 dsimp only at hk ⊢
 try refine A2 ?_
 refine A0 (A3 rfl rfl rfl (A9 rfl (kn rfl) (kn rfl) BE) .nil) ?_
 try refine A2 ?_
 refine AE rfl (fun h=>?_) (fun h=>?_)
 ·have hlt:k<v.fields.length:=by have:=of_decide_eq_true h;omega
  obtain⟨x,hx⟩:∃ x,v.fields[k]?=some x:=⟨_,List.getElem?_eq_getElem hlt⟩
  have hft:((v.fields.map (·.2)).take (k+1)).foldl (B9 (AY d)) (left-1)=B9 (AY d) (((v.fields.map (·.2)).take k).foldl (B9 (AY d)) (left-1)) x.2:=J0 (by rw[List.getElem?_map,hx];rfl)
  have hb:=hgb ((v.fields.map (·.2)).take k) (left-1) (by omega)
  generalize((v.fields.map (·.2)).take k).foldl (B9 (AY d)) (left-1)=M at hft hb ⊢
  try refine A2 ?_
  refine AI ?_
  refine AV (AO rfl (kn rfl) (kn rfl) (by omega) hx BH sle_23 esz_23 (BU x)) ?_
  refine AV (AR rfl (kn rfl) agg_44 sz_44) ?_
  refine B6 8 [.is (.int .i64 0),.is (.int .i64 0),.is (.int .u64 0),.is (.string ⟨#[]⟩),.is (.slice none 0 0),.is (.string ⟨#[]⟩),.is (.slice none 0 0),.is (.slice none 0 0)] rfl rfl rfl rfl zr_44 (fun w D M V=>⟨rfl,fun j x v h1 h2=>B7 _ h1 h2 rfl⟩) rfl rfl rfl rfl ?_
  refine B4 rfl rfl rfl (kn rfl) rfl (kn rfl) rfl rfl sz_44 ?_
  refine AN ?_
  try refine A2 ?_
  refine A0 (A8 rfl rfl rfl rfl rfl (A3 rfl rfl rfl (A9 rfl (kn rfl) (kn rfl) D1) .nil)) ?_
  try refine A2 ?_
  refine AE rfl (fun h2=>?_) (fun h2=>?_)
  ·have hM:=of_decide_eq_true h2
   rw[EK hM]at hft
   try refine A2 ?_
   refine A0 (A3 rfl rfl rfl (A4 rfl (kn rfl) off_44_1) (A3 rfl rfl rfl (AB (ds:=[_,_,_,_,_,_,_]) 7 rfl (kn rfl) rfl rfl agg_27 sz_27 rfl) (A8 rfl rfl rfl rfl rfl (A8 rfl rfl rfl rfl rfl (A3 rfl rfl rfl (A9 rfl (kn rfl) (kn rfl) (MI d hd)) (A3 rfl rfl rfl (AG rfl (by kernel_rfl) (ih x.2 M (hv.field (List.mem_of_getElem? hx)).2 hM (by omega)) ⟨(kn rfl),⟨(kn rfl),⟨(kn rfl),trivial⟩⟩⟩) (AD rfl rfl rfl rfl rfl .nil))))))) ?_
   try refine A2 ?_
   try refine A2 ?_
   refine A0 (A3 rfl rfl rfl (A9 rfl (kn rfl) (kn rfl) (AM (by first | omega | (dsimp only;omega)))) (A8 rfl rfl rfl rfl rfl .nil)) ?_
   try refine A2 ?_
   refine AZ ⟨k+1,by omega⟩ (by dsimp only;omega) (fun K=>AP ⟨⟨_,rfl,Imp.of_eq (by rw[hft])⟩,s_t,s_t,s_t,s_t,s_t,trivial⟩ ⟨s_b,trivial⟩ trivial)
  ·rw[E3 (of_decide_eq_false h2)]at hft
   try refine A2 ?_
   refine A0 (A3 rfl rfl rfl (A9 rfl (kn rfl) (kn rfl) (AM (by first | omega | (dsimp only;omega)))) (A8 rfl rfl rfl rfl rfl .nil)) ?_
   try refine A2 ?_
   refine AZ ⟨k+1,by omega⟩ (by dsimp only;omega) (fun K=>AP ⟨⟨_,rfl,Imp.of_eq (by rw[hft])⟩,s_t,s_t,s_t,s_t,s_t,trivial⟩ ⟨s_b,trivial⟩ trivial)
 obtain rfl:k=v.fields.length:=by have:=of_decide_eq_false h;omega
 rw[List.take_of_length_le (by simp)]
 have hb1:=hgb (v.fields.map (·.2)) (left-1) (by omega)
 generalize(v.fields.map (·.2)).foldl (B9 (AY d)) (left-1)=L1 at hb1 e2 ⊢
 try refine A2 ?_
 refine A0 (A3 rfl rfl rfl (A4 rfl (kn rfl) off_27_5) (A3 rfl rfl rfl (A6 rfl (kn rfl) rfl rfl one_24) (A3 rfl rfl rfl (AS rfl (kn rfl) sle_24) (A8 rfl rfl rfl rfl rfl .nil)))) ?_
 try refine A2 ?_
 refine BC (ι:={ k:Nat // k<=(v.list).length })
  (fun k=>[(1,.is (.int .i64 ((fun k=>(v.list.take k).foldl (B9 (AY d)) L1) k.1))),(2,.is (.int .i64 ((d+1:Nat):Int))),(3,.box 3 0),(46,.part (.one (.row 7 (v.list).length ((v.list).flatMap Vl.dats)))),(47,.is (.int .i64 ((v.list).length:Int))),(48,.is (.int .i64 (k.1:Int)))])
  (fun _=>[(3,⟨27,bcs (vd v)⟩)]) (fun _=>[]) (fun k=>(v.list).length-k.1) ⟨0,by omega⟩
  (fun K=>AP ⟨s_t,s_t,s_t,s_t,s_t,s_t,trivial⟩ ⟨s_b,trivial⟩ trivial) ?_
 rintro⟨k,hk⟩
 dsimp only at hk ⊢
 try refine A2 ?_
 refine A0 (A3 rfl rfl rfl (A9 rfl (kn rfl) (kn rfl) BE) .nil) ?_
 try refine A2 ?_
 refine AE rfl (fun h=>?_) (fun h=>?_)
 ·have hlt:k<v.list.length:=by have:=of_decide_eq_true h;omega
  obtain⟨x,hx⟩:∃ x,v.list[k]?=some x:=⟨_,List.getElem?_eq_getElem hlt⟩
  have hft:(v.list.take (k+1)).foldl (B9 (AY d)) L1=B9 (AY d) ((v.list.take k).foldl (B9 (AY d)) L1) x:=J0 hx
  have hb:=hgb (v.list.take k) L1 (by omega)
  generalize(v.list.take k).foldl (B9 (AY d)) L1=M at hft hb ⊢
  try refine A2 ?_
  refine AI ?_
  refine AV (AO rfl (kn rfl) (kn rfl) (by omega) hx Vl.dats_len sle_24 esz_24 (CI x)) ?_
  refine AV (AR rfl (kn rfl) agg_27 sz_27) ?_
  refine B6 10 [.is (.int .i64 0),.is (.int .u64 0),.is (.string ⟨#[]⟩),.is (.slice none 0 0),.is (.string ⟨#[]⟩),.is (.slice none 0 0),.is (.slice none 0 0)] rfl rfl rfl rfl zr_27 (fun w D M V=>⟨rfl,fun j x v h1 h2=>B7 _ h1 h2 rfl⟩) rfl rfl rfl rfl ?_
  refine B4 rfl rfl rfl (kn rfl) rfl (kn rfl) rfl rfl sz_27 ?_
  refine AN ?_
  try refine A2 ?_
  refine A0 (A8 rfl rfl rfl rfl rfl (A3 rfl rfl rfl (A9 rfl (kn rfl) (kn rfl) D1) .nil)) ?_
  try refine A2 ?_
  refine AE rfl (fun h2=>?_) (fun h2=>?_)
  ·have hM:=of_decide_eq_true h2
   rw[EK hM]at hft
   try refine A2 ?_
   refine A0 (A3 rfl rfl rfl (AB (ds:=[_,_,_,_,_,_,_]) 7 rfl (kn rfl) rfl rfl agg_27 sz_27 rfl) (A8 rfl rfl rfl rfl rfl (A8 rfl rfl rfl rfl rfl (A3 rfl rfl rfl (A9 rfl (kn rfl) (kn rfl) (MI d hd)) (A3 rfl rfl rfl (AG rfl (by kernel_rfl) (ih x M (hv.elem (List.mem_of_getElem? hx)) hM (by omega)) ⟨(kn rfl),⟨(kn rfl),⟨(kn rfl),trivial⟩⟩⟩) (AD rfl rfl rfl rfl rfl .nil)))))) ?_
   try refine A2 ?_
   try refine A2 ?_
   refine A0 (A3 rfl rfl rfl (A9 rfl (kn rfl) (kn rfl) (AM (by first | omega | (dsimp only;omega)))) (A8 rfl rfl rfl rfl rfl .nil)) ?_
   try refine A2 ?_
   refine AZ ⟨k+1,by omega⟩ (by dsimp only;omega) (fun K=>AP ⟨⟨_,rfl,Imp.of_eq (by rw[hft])⟩,s_t,s_t,s_t,s_t,s_t,trivial⟩ ⟨s_b,trivial⟩ trivial)
  ·rw[E3 (of_decide_eq_false h2)]at hft
   try refine A2 ?_
   refine A0 (A3 rfl rfl rfl (A9 rfl (kn rfl) (kn rfl) (AM (by first | omega | (dsimp only;omega)))) (A8 rfl rfl rfl rfl rfl .nil)) ?_
   try refine A2 ?_
   refine AZ ⟨k+1,by omega⟩ (by dsimp only;omega) (fun K=>AP ⟨⟨_,rfl,Imp.of_eq (by rw[hft])⟩,s_t,s_t,s_t,s_t,s_t,trivial⟩ ⟨s_b,trivial⟩ trivial)
 obtain rfl:k=v.list.length:=by have:=of_decide_eq_false h;omega
 rw[List.take_length]
 have hb2:=hgb v.list L1 (by omega)
 generalize v.list.foldl (B9 (AY d)) L1=L2 at hb2 e2 ⊢
 try refine A2 ?_
 refine A0 (A3 rfl rfl rfl (A4 rfl (kn rfl) off_27_6) (A3 rfl rfl rfl (A6 rfl (kn rfl) rfl rfl one_25) (A3 rfl rfl rfl (AS rfl (kn rfl) sle_25) (A8 rfl rfl rfl rfl rfl .nil)))) ?_
 try refine A2 ?_
 refine BC (ι:={ k:Nat // k<=(v.pairs).length })
  (fun k=>[(1,.is (.int .i64 ((fun k=>(BQ (v.pairs.take k)).foldl (B9 (AY d)) L2) k.1))),(2,.is (.int .i64 ((d+1:Nat):Int))),(3,.box 3 0),(61,.part (.one (.row 14 (v.pairs).length ((v.pairs).flatMap pairDats)))),(62,.is (.int .i64 ((v.pairs).length:Int))),(63,.is (.int .i64 (k.1:Int)))])
  (fun _=>[(3,⟨27,bcs (vd v)⟩)]) (fun _=>[]) (fun k=>(v.pairs).length-k.1) ⟨0,by omega⟩
  (fun K=>AP ⟨s_t,s_t,s_t,s_t,s_t,s_t,trivial⟩ ⟨s_b,trivial⟩ trivial) ?_
 rintro⟨k,hk⟩
 dsimp only at hk ⊢
 try refine A2 ?_
 refine A0 (A3 rfl rfl rfl (A9 rfl (kn rfl) (kn rfl) BE) .nil) ?_
 try refine A2 ?_
 refine AE rfl (fun h=>?_) (fun h=>?_)
 ·have hlt:k<v.pairs.length:=by have:=of_decide_eq_true h;omega
  obtain⟨x,hx⟩:∃ x,v.pairs[k]?=some x:=⟨_,List.getElem?_eq_getElem hlt⟩
  have hft:=JU (g:=B9 (AY d)) (l:=L2) hx
  have hb:=hgb (BQ (v.pairs.take k)) L2 (by omega)
  generalize(BQ (v.pairs.take k)).foldl (B9 (AY d)) L2=M at hft hb ⊢
  try refine A2 ?_
  refine AI ?_
  refine AV (AO rfl (kn rfl) (kn rfl) (by omega) hx BG sle_25 esz_25 (BR x)) ?_
  refine AV (AR rfl (kn rfl) agg_55 sz_55) ?_
  refine B6 12 [.is (.int .i64 0),.is (.int .u64 0),.is (.string ⟨#[]⟩),.is (.slice none 0 0),.is (.string ⟨#[]⟩),.is (.slice none 0 0),.is (.slice none 0 0),.is (.int .i64 0),.is (.int .u64 0),.is (.string ⟨#[]⟩),.is (.slice none 0 0),.is (.string ⟨#[]⟩),.is (.slice none 0 0),.is (.slice none 0 0)] rfl rfl rfl rfl zr_55 (fun w D M V=>⟨rfl,fun j x v h1 h2=>B7 _ h1 h2 rfl⟩) rfl rfl rfl rfl ?_
  refine B4 rfl rfl rfl (kn rfl) rfl (kn rfl) rfl rfl sz_55 ?_
  refine AN ?_
  try refine A2 ?_
  refine A0 (A8 rfl rfl rfl rfl rfl (A3 rfl rfl rfl (A9 rfl (kn rfl) (kn rfl) D1) .nil)) ?_
  try refine A2 ?_
  refine AE rfl (fun h2=>?_) (fun h2=>?_)
  ·have hM:=of_decide_eq_true h2
   rw[EK hM]at hft
   have hbd:=EO d x.1 M hM
   try refine A2 ?_
   refine A0 (A3 rfl rfl rfl (A4 rfl (kn rfl) off_55_0) (A3 rfl rfl rfl (AB (ds:=[_,_,_,_,_,_,_]) 7 rfl (kn rfl) rfl rfl agg_27 sz_27 rfl) (A8 rfl rfl rfl rfl rfl (A8 rfl rfl rfl rfl rfl (A3 rfl rfl rfl (A9 rfl (kn rfl) (kn rfl) (MI d hd)) (A3 rfl rfl rfl (AG rfl (by kernel_rfl) (ih x.1 M (hv.pair (List.mem_of_getElem? hx)).1 hM (by omega)) ⟨(kn rfl),⟨(kn rfl),⟨(kn rfl),trivial⟩⟩⟩) (AD rfl rfl rfl rfl rfl .nil))))))) ?_
   try refine A2 ?_
   try refine A2 ?_
   refine A0 (A8 rfl rfl rfl rfl rfl (A3 rfl rfl rfl (A9 rfl (kn rfl) (kn rfl) D1) .nil)) ?_
   try refine A2 ?_
   refine AE rfl (fun h3=>?_) (fun h3=>?_)
   ·have hM2:=of_decide_eq_true h3
    rw[EK hM2]at hft
    try refine A2 ?_
    refine A0 (A3 rfl rfl rfl (A4 rfl (kn rfl) off_55_1) (A3 rfl rfl rfl (AB (ds:=[_,_,_,_,_,_,_]) 7 rfl (kn rfl) rfl rfl agg_27 sz_27 rfl) (A8 rfl rfl rfl rfl rfl (A8 rfl rfl rfl rfl rfl (A3 rfl rfl rfl (A9 rfl (kn rfl) (kn rfl) (MI d hd)) (A3 rfl rfl rfl (AG rfl (by kernel_rfl) (ih x.2 (AY d x.1 M) (hv.pair (List.mem_of_getElem? hx)).2 hM2 (by omega)) ⟨(kn rfl),⟨(kn rfl),⟨(kn rfl),trivial⟩⟩⟩) (AD rfl rfl rfl rfl rfl .nil))))))) ?_
    try refine A2 ?_
    try refine A2 ?_
    refine A0 (A3 rfl rfl rfl (A9 rfl (kn rfl) (kn rfl) (AM (by first | omega | (dsimp only;omega)))) (A8 rfl rfl rfl rfl rfl .nil)) ?_
    try refine A2 ?_
    refine AZ ⟨k+1,by omega⟩ (by dsimp only;omega) (fun K=>AP ⟨⟨_,rfl,Imp.of_eq (by rw[hft])⟩,s_t,s_t,s_t,s_t,s_t,trivial⟩ ⟨s_b,trivial⟩ trivial)
   ·rw[E3 (of_decide_eq_false h3)]at hft
    try refine A2 ?_
    refine A0 (A3 rfl rfl rfl (A9 rfl (kn rfl) (kn rfl) (AM (by first | omega | (dsimp only;omega)))) (A8 rfl rfl rfl rfl rfl .nil)) ?_
    try refine A2 ?_
    refine AZ ⟨k+1,by omega⟩ (by dsimp only;omega) (fun K=>AP ⟨⟨_,rfl,Imp.of_eq (by rw[hft])⟩,s_t,s_t,s_t,s_t,s_t,trivial⟩ ⟨s_b,trivial⟩ trivial)
  ·rw[E3 (of_decide_eq_false h2),E3 (of_decide_eq_false h2)]at hft
   try refine A2 ?_
   refine A0 (A8 rfl rfl rfl rfl rfl (A3 rfl rfl rfl (A9 rfl (kn rfl) (kn rfl) D1) .nil)) ?_
   try refine A2 ?_
   refine AE rfl (fun h3=>?_) (fun h3=>?_)
   ·exact absurd (of_decide_eq_true h3) (of_decide_eq_false h2)
   try refine A2 ?_
   refine A0 (A3 rfl rfl rfl (A9 rfl (kn rfl) (kn rfl) (AM (by first | omega | (dsimp only;omega)))) (A8 rfl rfl rfl rfl rfl .nil)) ?_
   try refine A2 ?_
   refine AZ ⟨k+1,by omega⟩ (by dsimp only;omega) (fun K=>AP ⟨⟨_,rfl,Imp.of_eq (by rw[hft])⟩,s_t,s_t,s_t,s_t,s_t,trivial⟩ ⟨s_b,trivial⟩ trivial)
 obtain rfl:k=v.pairs.length:=by have:=of_decide_eq_false h;omega
 rw[List.take_length]
 try refine A2 ?_
 refine A0 (A8 rfl rfl rfl rfl rfl (AD rfl rfl rfl rfl rfl .nil)) ?_
 try refine A2 ?_
 exact A7 rfl rfl (.tmp (kn rfl) (.nil)) (Imp.of_eq (by rw[e2];rfl)) rfl
theorem KR:∀ d:Nat,d<=1000->JD d
 | 0,_=>LQ
 | d+1,h=>LS d (by omega) (KR d (by omega))
def NN(v:Vl)(most:Int):Bool:=decide (AY 30 v most<0)
theorem OK(v:Vl)(most:Int)(hv:v.Fine)(h0:0<=most)(h1:most<=1000000):EF Try.prog [] 5 [.many (vd v),iP most] (.part (tP (NN v most))):=by
 refine AF 9 Try.func5 rfl rfl rfl fun w D=>?_
 try refine A2 ?_
 refine AI ?_
 refine BB 2 rfl rfl rfl rfl (kn rfl) rfl rfl rfl rfl ?_
 refine CM ?_
 refine AN ?_
 try refine A2 ?_
 refine A0 (A3 rfl rfl rfl (AB (ds:=[_,_,_,_,_,_,_]) 7 rfl (kn rfl) rfl rfl agg_27 sz_27 rfl) (A8 rfl rfl rfl rfl rfl (A3 rfl rfl rfl (AG rfl (by kernel_rfl) (KR 30 (by omega) v most hv h0 h1) ⟨(kn rfl),⟨(kn rfl),⟨(kn rfl),trivial⟩⟩⟩) (A3 rfl rfl rfl (A9 rfl (kn rfl) (kn rfl) BE) (AD rfl rfl rfl rfl rfl .nil))))) ?_
 try refine A2 ?_
 exact A7 rfl rfl (.tmp (kn rfl) (.nil)) (Imp.of_eq rfl) rfl
theorem OU{v:Vl}{most:Int}(h0:0<=most)(h:NN v most=false):(vnodes v:Int)<=most/\v.Tx:=by
 have h1:=of_decide_eq_false h
 have h2:=IX 30 v most h0 (by omega)
 exact⟨by omega,h2.2.tx⟩
end Go.Proofs.Ytojdpgeeajaojaa
