/- Part 8. Conditions: as each theorem says. -/
import Derived.Test.YtecfdcdkkgmkpaaIS07
import Derived.Test.YtecfdcdkkgmkpaaProg
set_option maxRecDepth 100000
namespace Go.Proofs.Ytecfdcdkkgmkpaa
open Go.RowKit
theorem one_3:oneT Try.prog 3=true:=by kernel_rfl
theorem sz_3:sizeT Try.prog 3=some 1:=by kernel_rfl
theorem zr_3:C9 Try.prog 3=some [.int .i64 0]:=by kernel_rfl
theorem one_4:oneT Try.prog 4=true:=by kernel_rfl
theorem sz_4:sizeT Try.prog 4=some 1:=by kernel_rfl
theorem one_9:oneT Try.prog 9=true:=by kernel_rfl
theorem sz_9:sizeT Try.prog 9=some 1:=by kernel_rfl
theorem str_9:Try.prog.underlying 9=some .string:=by kernel_rfl
theorem one_22:oneT Try.prog 22=true:=by kernel_rfl
theorem sz_22:sizeT Try.prog 22=some 1:=by kernel_rfl
theorem one_23:oneT Try.prog 23=true:=by kernel_rfl
theorem sz_23:sizeT Try.prog 23=some 1:=by kernel_rfl
theorem sle_23:Try.prog.underlying 23=some (.slice (Try.prog.elem 23)):=by kernel_rfl
theorem esz_23:sizeT Try.prog (Try.prog.elem 23)=some 8:=by kernel_rfl
theorem one_24:oneT Try.prog 24=true:=by kernel_rfl
theorem sz_24:sizeT Try.prog 24=some 1:=by kernel_rfl
theorem sl_24:Try.prog.underlying 24=some (.slice 27):=by kernel_rfl
theorem sle_24:Try.prog.underlying 24=some (.slice (Try.prog.elem 24)):=by kernel_rfl
theorem esz_24:sizeT Try.prog (Try.prog.elem 24)=some 7:=by kernel_rfl
theorem ap_24:(Try.prog.info? 27).map (fun i=>(i.size,i.bytes,i.zero.map (·.cells.size)))=some (7,120,some 7):=by kernel_rfl
theorem one_25:oneT Try.prog 25=true:=by kernel_rfl
theorem sz_25:sizeT Try.prog 25=some 1:=by kernel_rfl
theorem sle_25:Try.prog.underlying 25=some (.slice (Try.prog.elem 25)):=by kernel_rfl
theorem esz_25:sizeT Try.prog (Try.prog.elem 25)=some 14:=by kernel_rfl
theorem agg_27:aggT Try.prog 27=true:=by kernel_rfl
theorem sz_27:sizeT Try.prog 27=some 7:=by kernel_rfl
theorem off_27_0:CO Try.prog 27 0=some 0:=by kernel_rfl
theorem off_27_1:CO Try.prog 27 1=some 1:=by kernel_rfl
theorem off_27_2:CO Try.prog 27 2=some 2:=by kernel_rfl
theorem off_27_3:CO Try.prog 27 3=some 3:=by kernel_rfl
theorem off_27_4:CO Try.prog 27 4=some 4:=by kernel_rfl
theorem off_27_5:CO Try.prog 27 5=some 5:=by kernel_rfl
theorem off_27_6:CO Try.prog 27 6=some 6:=by kernel_rfl
theorem pl_27:GI Try.prog 27=some [(0,1),(1,1),(2,1),(3,1),(4,1),(5,1),(6,1)]:=by kernel_rfl
theorem zr_27:C9 Try.prog 27=some [.int .i64 0,.int .u64 0,.string ⟨#[]⟩,.slice none 0 0,.string ⟨#[]⟩,.slice none 0 0,.slice none 0 0]:=by kernel_rfl
theorem one_28:oneT Try.prog 28=true:=by kernel_rfl
theorem sz_28:sizeT Try.prog 28=some 1:=by kernel_rfl
theorem sl_28:Try.prog.underlying 28=some (.slice 61):=by kernel_rfl
theorem sle_28:Try.prog.underlying 28=some (.slice (Try.prog.elem 28)):=by kernel_rfl
theorem esz_28:sizeT Try.prog (Try.prog.elem 28)=some 22:=by kernel_rfl
theorem ap_28:(Try.prog.info? 61).map (fun i=>(i.size,i.bytes,i.zero.map (·.cells.size)))=some (22,368,some 22):=by kernel_rfl
theorem one_29:oneT Try.prog 29=true:=by kernel_rfl
theorem sz_29:sizeT Try.prog 29=some 1:=by kernel_rfl
theorem sl_29:Try.prog.underlying 29=some (.slice 76):=by kernel_rfl
theorem sle_29:Try.prog.underlying 29=some (.slice (Try.prog.elem 29)):=by kernel_rfl
theorem esz_29:sizeT Try.prog (Try.prog.elem 29)=some 30:=by kernel_rfl
theorem ap_29:(Try.prog.info? 76).map (fun i=>(i.size,i.bytes,i.zero.map (·.cells.size)))=some (30,496,some 30):=by kernel_rfl
theorem one_30:oneT Try.prog 30=true:=by kernel_rfl
theorem sz_30:sizeT Try.prog 30=some 1:=by kernel_rfl
theorem sl_30:Try.prog.underlying 30=some (.slice 65):=by kernel_rfl
theorem sle_30:Try.prog.underlying 30=some (.slice (Try.prog.elem 30)):=by kernel_rfl
theorem esz_30:sizeT Try.prog (Try.prog.elem 30)=some 28:=by kernel_rfl
theorem ap_30:(Try.prog.info? 65).map (fun i=>(i.size,i.bytes,i.zero.map (·.cells.size)))=some (28,480,some 28):=by kernel_rfl
theorem agg_32:aggT Try.prog 32=true:=by kernel_rfl
theorem sz_32:sizeT Try.prog 32=some 21:=by kernel_rfl
theorem off_32_0:CO Try.prog 32 0=some 0:=by kernel_rfl
theorem off_32_1:CO Try.prog 32 1=some 1:=by kernel_rfl
theorem off_32_2:CO Try.prog 32 2=some 8:=by kernel_rfl
theorem off_32_3:CO Try.prog 32 3=some 15:=by kernel_rfl
theorem off_32_4:CO Try.prog 32 4=some 16:=by kernel_rfl
theorem off_32_5:CO Try.prog 32 5=some 17:=by kernel_rfl
theorem off_32_6:CO Try.prog 32 6=some 18:=by kernel_rfl
theorem off_32_7:CO Try.prog 32 7=some 19:=by kernel_rfl
theorem off_32_8:CO Try.prog 32 8=some 20:=by kernel_rfl
theorem pl_32:GI Try.prog 32=some [(0,1),(1,7),(8,7),(15,1),(16,1),(17,1),(18,1),(19,1),(20,1)]:=by kernel_rfl
theorem zr_32:C9 Try.prog 32=some [.int .i64 0,.int .i64 0,.int .u64 0,.string ⟨#[]⟩,.slice none 0 0,.string ⟨#[]⟩,.slice none 0 0,.slice none 0 0,.int .i64 0,.int .u64 0,.string ⟨#[]⟩,.slice none 0 0,.string ⟨#[]⟩,.slice none 0 0,.slice none 0 0,.slice none 0 0,.bool false,.string ⟨#[]⟩,.string ⟨#[]⟩,.slice none 0 0,.slice none 0 0]:=by kernel_rfl
theorem agg_53:aggT Try.prog 53=true:=by kernel_rfl
theorem sz_53:sizeT Try.prog 53=some 2:=by kernel_rfl
theorem zr_53:C9 Try.prog 53=some [.int .i64 0,.int .i64 0]:=by kernel_rfl
theorem sl_54:Try.prog.underlying 54=some (.slice 53):=by kernel_rfl
theorem sle_54:Try.prog.underlying 54=some (.slice (Try.prog.elem 54)):=by kernel_rfl
theorem esz_54:sizeT Try.prog (Try.prog.elem 54)=some 2:=by kernel_rfl
theorem agg_61:aggT Try.prog 61=true:=by kernel_rfl
theorem sz_61:sizeT Try.prog 61=some 22:=by kernel_rfl
theorem off_61_0:CO Try.prog 61 0=some 0:=by kernel_rfl
theorem off_61_1:CO Try.prog 61 1=some 1:=by kernel_rfl
theorem zr_61:C9 Try.prog 61=some [.int .i64 0,.int .i64 0,.int .i64 0,.int .u64 0,.string ⟨#[]⟩,.slice none 0 0,.string ⟨#[]⟩,.slice none 0 0,.slice none 0 0,.int .i64 0,.int .u64 0,.string ⟨#[]⟩,.slice none 0 0,.string ⟨#[]⟩,.slice none 0 0,.slice none 0 0,.slice none 0 0,.bool false,.string ⟨#[]⟩,.string ⟨#[]⟩,.slice none 0 0,.slice none 0 0]:=by kernel_rfl
theorem agg_65:aggT Try.prog 65=true:=by kernel_rfl
theorem sz_65:sizeT Try.prog 65=some 28:=by kernel_rfl
theorem off_65_0:CO Try.prog 65 0=some 0:=by kernel_rfl
theorem off_65_1:CO Try.prog 65 1=some 7:=by kernel_rfl
theorem zr_65:C9 Try.prog 65=some [.int .i64 0,.int .u64 0,.string ⟨#[]⟩,.slice none 0 0,.string ⟨#[]⟩,.slice none 0 0,.slice none 0 0,.int .i64 0,.int .i64 0,.int .u64 0,.string ⟨#[]⟩,.slice none 0 0,.string ⟨#[]⟩,.slice none 0 0,.slice none 0 0,.int .i64 0,.int .u64 0,.string ⟨#[]⟩,.slice none 0 0,.string ⟨#[]⟩,.slice none 0 0,.slice none 0 0,.slice none 0 0,.bool false,.string ⟨#[]⟩,.string ⟨#[]⟩,.slice none 0 0,.slice none 0 0]:=by kernel_rfl
theorem sl_70:Try.prog.underlying 70=some (.slice 3):=by kernel_rfl
theorem sle_70:Try.prog.underlying 70=some (.slice (Try.prog.elem 70)):=by kernel_rfl
theorem esz_70:sizeT Try.prog (Try.prog.elem 70)=some 1:=by kernel_rfl
theorem agg_76:aggT Try.prog 76=true:=by kernel_rfl
theorem sz_76:sizeT Try.prog 76=some 30:=by kernel_rfl
theorem off_76_0:CO Try.prog 76 0=some 0:=by kernel_rfl
theorem off_76_1:CO Try.prog 76 1=some 1:=by kernel_rfl
theorem off_76_2:CO Try.prog 76 2=some 2:=by kernel_rfl
theorem off_76_3:CO Try.prog 76 3=some 9:=by kernel_rfl
theorem pl_76:GI Try.prog 76=some [(0,1),(1,1),(2,7),(9,21)]:=by kernel_rfl
theorem zr_76:C9 Try.prog 76=some [.int .i64 0,.int .i64 0,.int .i64 0,.int .u64 0,.string ⟨#[]⟩,.slice none 0 0,.string ⟨#[]⟩,.slice none 0 0,.slice none 0 0,.int .i64 0,.int .i64 0,.int .u64 0,.string ⟨#[]⟩,.slice none 0 0,.string ⟨#[]⟩,.slice none 0 0,.slice none 0 0,.int .i64 0,.int .u64 0,.string ⟨#[]⟩,.slice none 0 0,.string ⟨#[]⟩,.slice none 0 0,.slice none 0 0,.slice none 0 0,.bool false,.string ⟨#[]⟩,.string ⟨#[]⟩,.slice none 0 0,.slice none 0 0]:=by kernel_rfl
theorem agg_97:aggT Try.prog 97=true:=by kernel_rfl
theorem sz_97:sizeT Try.prog 97=some 8:=by kernel_rfl
theorem off_97_0:CO Try.prog 97 0=some 0:=by kernel_rfl
theorem off_97_1:CO Try.prog 97 1=some 1:=by kernel_rfl
theorem zr_97:C9 Try.prog 97=some [.int .i64 0,.int .i64 0,.int .u64 0,.string ⟨#[]⟩,.slice none 0 0,.string ⟨#[]⟩,.slice none 0 0,.slice none 0 0]:=by kernel_rfl
theorem agg_101:aggT Try.prog 101=true:=by kernel_rfl
theorem sz_101:sizeT Try.prog 101=some 14:=by kernel_rfl
theorem off_101_0:CO Try.prog 101 0=some 0:=by kernel_rfl
theorem off_101_1:CO Try.prog 101 1=some 7:=by kernel_rfl
theorem zr_101:C9 Try.prog 101=some [.int .i64 0,.int .u64 0,.string ⟨#[]⟩,.slice none 0 0,.string ⟨#[]⟩,.slice none 0 0,.slice none 0 0,.int .i64 0,.int .u64 0,.string ⟨#[]⟩,.slice none 0 0,.string ⟨#[]⟩,.slice none 0 0,.slice none 0 0]:=by kernel_rfl
theorem DX:Try.prog.follows .mixedOrders=true:=by kernel_rfl
def vd(v:Vl):List Dat:=[.cell (.int .i64 v.kind),.cell (.int .u64 (v.num:Int)),.cell (.string (str v.text)),.row 8 v.fields.length (v.fields.flatMap fieldDats),.cell (.string (str v.rest)),.row 7 v.list.length (v.list.flatMap Vl.dats),.row 14 v.pairs.length (v.pairs.flatMap pairDats)]
theorem D7(v:Vl):v.dats=vd v:=v.dats_eq
theorem CM(f:Int×Vl):fieldDats f=.cell (.int .i64 f.1)::vd f.2:=by unfold fieldDats;rw[D7]
theorem CK(p:Vl×Vl):pairDats p=vd p.1++vd p.2:=by unfold pairDats;rw[D7,D7]
abbrev iP(z:Int):Part:=.one (.cell (.int .i64 z))
abbrev uP(n:Nat):Part:=.one (.cell (.int .u64 (n:Int)))
abbrev sP(l:List UInt8):Part:=.one (.cell (.string (str l)))
abbrev tP(b:Bool):Part:=.one (.cell (.bool b))
theorem J4{a b:Nat}(h:a<b):ncmp a b = -1:=if_pos h
theorem J3{a b:Nat}(h:b<a):ncmp a b=1:=(if_neg (by omega)).trans (if_pos h)
theorem J7{a b:Nat}(h:a=b):ncmp a b=0:=(if_neg (by omega)).trans (if_neg (by omega))
theorem TM{a b:Int}(h:a<b):DY a b = -1:=if_pos h
theorem TJ{a b:Int}(h:b<a):DY a b=1:=(if_neg (by omega)).trans (if_pos h)
theorem PY{a b:Int}(h:a=b):DY a b=0:=(if_neg (by omega)).trans (if_neg (by omega))
theorem H1{x y:Int}(h:x≠0):lex x y=x:=if_pos h
theorem FY{x y:Int}(h:x=0):lex x y=y:=if_neg (by omega)
inductive Vl.Tx:Vl->Prop where
 | mk (v:Vl):v.text.length<=400->v.rest.length<=400->(∀ x∈rkids v,Tx x)->Tx v
theorem Vl.Tx.kid{v x:Vl}(h:v.Tx)(hx:x∈rkids v):x.Tx:=by
 cases h with
 | mk v a b c=>exact c x hx
theorem SK{v x:Vl}:x∈rkids v↔x∈gkids v:=by
 unfold rkids gkids FE
 simp only[List.mem_append]
 constructor
 ·rintro((h | h) | h)
  ·exact .inr (.inl h)
  ·exact .inl h
  ·exact .inr (.inr h)
 ·rintro(h | h | h)
  ·exact .inl (.inr h)
  ·exact .inl (.inl h)
  ·exact .inr h
theorem Small.tx:∀ {d:Nat} {v:Vl},Small d v->v.Tx
 | 0,_,h=>by cases h
 | d+1,v,h=>by
  obtain⟨h1,h2,h3⟩:=h.parts
  exact .mk v h1 h2 fun x hx=>(h3 x (SK.1 hx)).tx
theorem UA{a:Bool}{k:Nat}(h:(a&&decide ((0:Int)<(k:Int)))=true):(0:Int)<=(k:Int)-1:=by
 have:=of_decide_eq_true (gr h)
 omega
theorem U0{b:Bool}(h:(!b)=true):b=false:=by cases b<;>first | rfl | cases h
theorem TZ{b:Bool}(h:(!b)=false):b=true:=by cases b<;>first | rfl | cases h
theorem M2{α:Type}{l:List α}{k:Nat}(h:k<l.length):∃ x,l[((k:Int)-1).toNat]?=some x:=⟨_,List.getElem?_eq_getElem (by omega)⟩
def Vl.zero:Vl:=.mk 0 0 [] [] [] [] []
theorem JZ{P:Program}{t:TypeId}(d:Nat)(h:d<=1000):GS P .sub t (.int .i64 ((d+1:Nat):Int)) (.int .i64 1) (.int .i64 (d:Int)):=by
 have:=E1 (P:=P) (t:=t) (m:=((d+1:Nat):Int)) (n:=1) (by omega)
 rwa [show((d+1:Nat):Int)-1=(d:Int) by omega]at this
theorem GF{g:Vl->Int->Int}{l:Int}{x:Vl}(h:0<=l):BP g l x=g x l:=if_pos h
theorem FK{g:Vl->Int->Int}{l:Int}{x:Vl}(h:¬ 0<=l):BP g l x=l:=if_neg h
def MK(d:Nat):Prop:=∀ (v:Vl) (left:Int),v.Fine->0<=left->left<=1000000->EF Try.prog [] 86 [.many (vd v),iP left,iP (d:Int)] (.part (iP (B4 d v left)))
theorem P2:MK 0:=by
 intro v left hv h0 h1
 refine AF 85 Try.func86 rfl rfl rfl fun w D=>?_
 try refine A1 ?_
 refine AG ?_
 refine BV 3 rfl rfl rfl rfl (kn rfl) rfl rfl rfl rfl ?_
 refine BW ?_
 refine AD ?_
 try refine A1 ?_
 refine A0 (A8 rfl rfl rfl rfl rfl (A4 rfl rfl rfl (A6 rfl (kn rfl) (kn rfl) AL) (A8 rfl rfl rfl rfl rfl (Walk.gd _ rfl rfl rfl (fun h=>A3 rfl (kn rfl) off_27_2) (Walk.gd _ rfl rfl rfl (fun h=>A5 rfl (A2 rfl h) rfl rfl one_9) (Walk.gd _ rfl rfl rfl (fun h=>FJ rfl (A2 rfl h) str_9) (Walk.gd _ rfl rfl rfl (fun h=>A6 rfl (A2 rfl h) (kn rfl) D9) (A4 rfl rfl rfl (ES rfl (kn rfl) (fun hb=>A2 rfl hb)) (A8 rfl rfl rfl rfl rfl (Walk.gd _ rfl rfl rfl (fun h=>A3 rfl (kn rfl) off_27_4) (Walk.gd _ rfl rfl rfl (fun h=>A5 rfl (A2 rfl h) rfl rfl one_9) (Walk.gd _ rfl rfl rfl (fun h=>FJ rfl (A2 rfl h) str_9) (Walk.gd _ rfl rfl rfl (fun h=>A6 rfl (A2 rfl h) (kn rfl) D9) (A4 rfl rfl rfl (ES rfl (kn rfl) (fun hb=>A2 rfl hb)) .nil)))))))))))))) ?_
 try refine A1 ?_
 refine AB rfl (fun h=>?_) (fun h=>?_)
 ·try refine A1 ?_
  refine A0 (AC rfl rfl rfl rfl rfl .nil) ?_
  try refine A1 ?_
  exact A7 rfl rfl (.tmp (kn rfl) (.nil)) (Imp.of_eq rfl) rfl
 ·simp at h
set_option maxHeartbeats 4000000 in
theorem PT(d:Nat)(hd:d<=1000)(ih:MK d):MK (d+1):=by
 intro v left hv h0 h1
 have hmax:maxLen<=9223372036854775807:=by decide
 obtain⟨a1,a2,a3,a4,a5,a6,a7,a8⟩:=hv.bounds
 have hgb:∀ (xs:List Vl) (l:Int),-1<=l -> -1<=xs.foldl (BP (B4 d)) l/\xs.foldl (BP (B4 d)) l<=l:=fun xs l h=>HM (B4 d) (fun x l hl=>GH d x l hl) xs l h
 have e:¬ (400<v.text.length\/400<v.rest.length)->B4 (d+1) v left=(FE v.pairs).foldl (BP (B4 d)) (v.list.foldl (BP (B4 d)) ((v.fields.map (·.2)).foldl (BP (B4 d)) (left-1))):=fun h=>by
  rw[B4,if_neg h,gkids,List.foldl_append,List.foldl_append]
  rfl
 refine AF 85 Try.func86 rfl rfl rfl fun w D=>?_
 try refine A1 ?_
 refine AG ?_
 refine BV 3 rfl rfl rfl rfl (kn rfl) rfl rfl rfl rfl ?_
 refine BW ?_
 refine AD ?_
 try refine A1 ?_
 refine A0 (A8 rfl rfl rfl rfl rfl (A4 rfl rfl rfl (A6 rfl (kn rfl) (kn rfl) AL) (A8 rfl rfl rfl rfl rfl (Walk.gd _ rfl rfl rfl (fun h=>A3 rfl (kn rfl) off_27_2) (Walk.gd _ rfl rfl rfl (fun h=>A5 rfl (A2 rfl h) rfl rfl one_9) (Walk.gd _ rfl rfl rfl (fun h=>FJ rfl (A2 rfl h) str_9) (Walk.gd _ rfl rfl rfl (fun h=>A6 rfl (A2 rfl h) (kn rfl) D9) (A4 rfl rfl rfl (ES rfl (kn rfl) (fun hb=>A2 rfl hb)) (A8 rfl rfl rfl rfl rfl (Walk.gd _ rfl rfl rfl (fun h=>A3 rfl (kn rfl) off_27_4) (Walk.gd _ rfl rfl rfl (fun h=>A5 rfl (A2 rfl h) rfl rfl one_9) (Walk.gd _ rfl rfl rfl (fun h=>FJ rfl (A2 rfl h) str_9) (Walk.gd _ rfl rfl rfl (fun h=>A6 rfl (A2 rfl h) (kn rfl) D9) (A4 rfl rfl rfl (ES rfl (kn rfl) (fun hb=>A2 rfl hb)) .nil)))))))))))))) ?_
 try refine A1 ?_
 refine AB rfl (fun h=>?_) (fun h=>?_)
 ·have e2:B4 (d+1) v left = -1:=by
   simp only[Bool.or_eq_true,decide_eq_true_eq]at h
   rw[B4]
   exact if_pos (by omega)
  try refine A1 ?_
  refine A0 (AC rfl rfl rfl rfl rfl .nil) ?_
  try refine A1 ?_
  exact A7 rfl rfl (.tmp (kn rfl) (.nil)) (Imp.of_eq (by rw[e2];rfl)) rfl
 have e2:=e (by
  simp only[Bool.or_eq_false_iff,decide_eq_false_iff_not]at h
  omega)
 clear e h
 try refine A1 ?_
 refine A0 (A8 rfl rfl rfl rfl rfl (A4 rfl rfl rfl (A6 rfl (kn rfl) (kn rfl) (E1 (by first | omega | (dsimp only;omega)))) (AC rfl rfl rfl rfl rfl .nil))) ?_
 try refine A1 ?_
 refine A0 (A4 rfl rfl rfl (A3 rfl (kn rfl) off_27_3) (A4 rfl rfl rfl (A5 rfl (kn rfl) rfl rfl one_23) (A4 rfl rfl rfl (AY rfl (kn rfl) sle_23) (A8 rfl rfl rfl rfl rfl .nil)))) ?_
 try refine A1 ?_
 refine BN (ι:={ k:Nat // k<=(v.fields).length })
  (fun k=>[(1,.is (.int .i64 ((fun k=>((v.fields.map (·.2)).take k).foldl (BP (B4 d)) (left-1)) k.1))),(2,.is (.int .i64 ((d+1:Nat):Int))),(3,.box 3 0),(30,.part (.one (.row 8 (v.fields).length ((v.fields).flatMap fieldDats)))),(31,.is (.int .i64 ((v.fields).length:Int))),(32,.is (.int .i64 (k.1:Int)))])
  (fun _=>[(3,⟨27,bcs (vd v)⟩)]) (fun _=>[]) (fun k=>(v.fields).length-k.1) ⟨0,by omega⟩
  (fun K=>AM ⟨s_t,s_t,s_t,s_t,s_t,s_t,trivial⟩ ⟨s_b,trivial⟩ trivial) ?_
 rintro⟨k,hk⟩
 dsimp only at hk ⊢
 try refine A1 ?_
 refine A0 (A4 rfl rfl rfl (A6 rfl (kn rfl) (kn rfl) BM) .nil) ?_
 try refine A1 ?_
 refine AB rfl (fun h=>?_) (fun h=>?_)
 ·have hlt:k<v.fields.length:=by have:=of_decide_eq_true h;omega
  obtain⟨x,hx⟩:∃ x,v.fields[k]?=some x:=⟨_,List.getElem?_eq_getElem hlt⟩
  have hft:((v.fields.map (·.2)).take (k+1)).foldl (BP (B4 d)) (left-1)=BP (B4 d) (((v.fields.map (·.2)).take k).foldl (BP (B4 d)) (left-1)) x.2:=LE (by rw[List.getElem?_map,hx];rfl)
  have hb:=hgb ((v.fields.map (·.2)).take k) (left-1) (by omega)
  generalize((v.fields.map (·.2)).take k).foldl (BP (B4 d)) (left-1)=M at hft hb ⊢
  try refine A1 ?_
  refine AG ?_
  refine AK (AX rfl (kn rfl) (kn rfl) (by omega) hx BY sle_23 esz_23 (CM x)) ?_
  refine AK (AO rfl (kn rfl) agg_97 sz_97) ?_
  refine BB 8 [.is (.int .i64 0),.is (.int .i64 0),.is (.int .u64 0),.is (.string ⟨#[]⟩),.is (.slice none 0 0),.is (.string ⟨#[]⟩),.is (.slice none 0 0),.is (.slice none 0 0)] rfl rfl rfl rfl zr_97 (fun w D M V=>⟨rfl,fun j x v h1 h2=>BA _ h1 h2 rfl⟩) rfl rfl rfl rfl ?_
  refine B2 rfl rfl rfl (kn rfl) rfl (kn rfl) rfl rfl sz_97 ?_
  refine AD ?_
  try refine A1 ?_
  refine A0 (A8 rfl rfl rfl rfl rfl (A4 rfl rfl rfl (A6 rfl (kn rfl) (kn rfl) CW) .nil)) ?_
  try refine A1 ?_
  refine AB rfl (fun h2=>?_) (fun h2=>?_)
  ·have hM:=of_decide_eq_true h2
   rw[GF hM]at hft
   try refine A1 ?_
   refine A0 (A4 rfl rfl rfl (A3 rfl (kn rfl) off_97_1) (A4 rfl rfl rfl (A9 (ds:=[_,_,_,_,_,_,_]) 7 rfl (kn rfl) rfl rfl agg_27 sz_27 rfl) (A8 rfl rfl rfl rfl rfl (A8 rfl rfl rfl rfl rfl (A4 rfl rfl rfl (A6 rfl (kn rfl) (kn rfl) (JZ d hd)) (A4 rfl rfl rfl (AH rfl (by kernel_rfl) (ih x.2 M (hv.field (List.mem_of_getElem? hx)).2 hM (by omega)) ⟨(kn rfl),⟨(kn rfl),⟨(kn rfl),trivial⟩⟩⟩) (AC rfl rfl rfl rfl rfl .nil))))))) ?_
   try refine A1 ?_
   try refine A1 ?_
   refine A0 (A4 rfl rfl rfl (A6 rfl (kn rfl) (kn rfl) (AW (by first | omega | (dsimp only;omega)))) (A8 rfl rfl rfl rfl rfl .nil)) ?_
   try refine A1 ?_
   refine AV ⟨k+1,by omega⟩ (by dsimp only;omega) (fun K=>AM ⟨⟨_,rfl,Imp.of_eq (by rw[hft])⟩,s_t,s_t,s_t,s_t,s_t,trivial⟩ ⟨s_b,trivial⟩ trivial)
  ·rw[FK (of_decide_eq_false h2)]at hft
   try refine A1 ?_
   refine A0 (A4 rfl rfl rfl (A6 rfl (kn rfl) (kn rfl) (AW (by first | omega | (dsimp only;omega)))) (A8 rfl rfl rfl rfl rfl .nil)) ?_
   try refine A1 ?_
   refine AV ⟨k+1,by omega⟩ (by dsimp only;omega) (fun K=>AM ⟨⟨_,rfl,Imp.of_eq (by rw[hft])⟩,s_t,s_t,s_t,s_t,s_t,trivial⟩ ⟨s_b,trivial⟩ trivial)
 obtain rfl:k=v.fields.length:=by have:=of_decide_eq_false h;omega
 rw[List.take_of_length_le (by simp)]
 have hb1:=hgb (v.fields.map (·.2)) (left-1) (by omega)
 generalize(v.fields.map (·.2)).foldl (BP (B4 d)) (left-1)=L1 at hb1 e2 ⊢
 try refine A1 ?_
 refine A0 (A4 rfl rfl rfl (A3 rfl (kn rfl) off_27_5) (A4 rfl rfl rfl (A5 rfl (kn rfl) rfl rfl one_24) (A4 rfl rfl rfl (AY rfl (kn rfl) sle_24) (A8 rfl rfl rfl rfl rfl .nil)))) ?_
 try refine A1 ?_
 refine BN (ι:={ k:Nat // k<=(v.list).length })
  (fun k=>[(1,.is (.int .i64 ((fun k=>(v.list.take k).foldl (BP (B4 d)) L1) k.1))),(2,.is (.int .i64 ((d+1:Nat):Int))),(3,.box 3 0),(46,.part (.one (.row 7 (v.list).length ((v.list).flatMap Vl.dats)))),(47,.is (.int .i64 ((v.list).length:Int))),(48,.is (.int .i64 (k.1:Int)))])
  (fun _=>[(3,⟨27,bcs (vd v)⟩)]) (fun _=>[]) (fun k=>(v.list).length-k.1) ⟨0,by omega⟩
  (fun K=>AM ⟨s_t,s_t,s_t,s_t,s_t,s_t,trivial⟩ ⟨s_b,trivial⟩ trivial) ?_
 rintro⟨k,hk⟩
 dsimp only at hk ⊢
 try refine A1 ?_
 refine A0 (A4 rfl rfl rfl (A6 rfl (kn rfl) (kn rfl) BM) .nil) ?_
 try refine A1 ?_
 refine AB rfl (fun h=>?_) (fun h=>?_)
 ·have hlt:k<v.list.length:=by have:=of_decide_eq_true h;omega
  obtain⟨x,hx⟩:∃ x,v.list[k]?=some x:=⟨_,List.getElem?_eq_getElem hlt⟩
  have hft:(v.list.take (k+1)).foldl (BP (B4 d)) L1=BP (B4 d) ((v.list.take k).foldl (BP (B4 d)) L1) x:=LE hx
  have hb:=hgb (v.list.take k) L1 (by omega)
  generalize(v.list.take k).foldl (BP (B4 d)) L1=M at hft hb ⊢
  try refine A1 ?_
  refine AG ?_
  refine AK (AX rfl (kn rfl) (kn rfl) (by omega) hx Vl.dats_len sle_24 esz_24 (D7 x)) ?_
  refine AK (AO rfl (kn rfl) agg_27 sz_27) ?_
  refine BB 10 [.is (.int .i64 0),.is (.int .u64 0),.is (.string ⟨#[]⟩),.is (.slice none 0 0),.is (.string ⟨#[]⟩),.is (.slice none 0 0),.is (.slice none 0 0)] rfl rfl rfl rfl zr_27 (fun w D M V=>⟨rfl,fun j x v h1 h2=>BA _ h1 h2 rfl⟩) rfl rfl rfl rfl ?_
  refine B2 rfl rfl rfl (kn rfl) rfl (kn rfl) rfl rfl sz_27 ?_
  refine AD ?_
  try refine A1 ?_
  refine A0 (A8 rfl rfl rfl rfl rfl (A4 rfl rfl rfl (A6 rfl (kn rfl) (kn rfl) CW) .nil)) ?_
  try refine A1 ?_
  refine AB rfl (fun h2=>?_) (fun h2=>?_)
  ·have hM:=of_decide_eq_true h2
   rw[GF hM]at hft
   try refine A1 ?_
   refine A0 (A4 rfl rfl rfl (A9 (ds:=[_,_,_,_,_,_,_]) 7 rfl (kn rfl) rfl rfl agg_27 sz_27 rfl) (A8 rfl rfl rfl rfl rfl (A8 rfl rfl rfl rfl rfl (A4 rfl rfl rfl (A6 rfl (kn rfl) (kn rfl) (JZ d hd)) (A4 rfl rfl rfl (AH rfl (by kernel_rfl) (ih x M (hv.elem (List.mem_of_getElem? hx)) hM (by omega)) ⟨(kn rfl),⟨(kn rfl),⟨(kn rfl),trivial⟩⟩⟩) (AC rfl rfl rfl rfl rfl .nil)))))) ?_
   try refine A1 ?_
   try refine A1 ?_
   refine A0 (A4 rfl rfl rfl (A6 rfl (kn rfl) (kn rfl) (AW (by first | omega | (dsimp only;omega)))) (A8 rfl rfl rfl rfl rfl .nil)) ?_
   try refine A1 ?_
   refine AV ⟨k+1,by omega⟩ (by dsimp only;omega) (fun K=>AM ⟨⟨_,rfl,Imp.of_eq (by rw[hft])⟩,s_t,s_t,s_t,s_t,s_t,trivial⟩ ⟨s_b,trivial⟩ trivial)
  ·rw[FK (of_decide_eq_false h2)]at hft
   try refine A1 ?_
   refine A0 (A4 rfl rfl rfl (A6 rfl (kn rfl) (kn rfl) (AW (by first | omega | (dsimp only;omega)))) (A8 rfl rfl rfl rfl rfl .nil)) ?_
   try refine A1 ?_
   refine AV ⟨k+1,by omega⟩ (by dsimp only;omega) (fun K=>AM ⟨⟨_,rfl,Imp.of_eq (by rw[hft])⟩,s_t,s_t,s_t,s_t,s_t,trivial⟩ ⟨s_b,trivial⟩ trivial)
 obtain rfl:k=v.list.length:=by have:=of_decide_eq_false h;omega
 rw[List.take_length]
 have hb2:=hgb v.list L1 (by omega)
 generalize v.list.foldl (BP (B4 d)) L1=L2 at hb2 e2 ⊢
 try refine A1 ?_
 refine A0 (A4 rfl rfl rfl (A3 rfl (kn rfl) off_27_6) (A4 rfl rfl rfl (A5 rfl (kn rfl) rfl rfl one_25) (A4 rfl rfl rfl (AY rfl (kn rfl) sle_25) (A8 rfl rfl rfl rfl rfl .nil)))) ?_
 try refine A1 ?_
 refine BN (ι:={ k:Nat // k<=(v.pairs).length })
  (fun k=>[(1,.is (.int .i64 ((fun k=>(FE (v.pairs.take k)).foldl (BP (B4 d)) L2) k.1))),(2,.is (.int .i64 ((d+1:Nat):Int))),(3,.box 3 0),(61,.part (.one (.row 14 (v.pairs).length ((v.pairs).flatMap pairDats)))),(62,.is (.int .i64 ((v.pairs).length:Int))),(63,.is (.int .i64 (k.1:Int)))])
  (fun _=>[(3,⟨27,bcs (vd v)⟩)]) (fun _=>[]) (fun k=>(v.pairs).length-k.1) ⟨0,by omega⟩
  (fun K=>AM ⟨s_t,s_t,s_t,s_t,s_t,s_t,trivial⟩ ⟨s_b,trivial⟩ trivial) ?_
 rintro⟨k,hk⟩
 dsimp only at hk ⊢
 try refine A1 ?_
 refine A0 (A4 rfl rfl rfl (A6 rfl (kn rfl) (kn rfl) BM) .nil) ?_
 try refine A1 ?_
 refine AB rfl (fun h=>?_) (fun h=>?_)
 ·have hlt:k<v.pairs.length:=by have:=of_decide_eq_true h;omega
  obtain⟨x,hx⟩:∃ x,v.pairs[k]?=some x:=⟨_,List.getElem?_eq_getElem hlt⟩
  have hft:=ON (g:=BP (B4 d)) (l:=L2) hx
  have hb:=hgb (FE (v.pairs.take k)) L2 (by omega)
  generalize(FE (v.pairs.take k)).foldl (BP (B4 d)) L2=M at hft hb ⊢
  try refine A1 ?_
  refine AG ?_
  refine AK (AX rfl (kn rfl) (kn rfl) (by omega) hx BT sle_25 esz_25 (CK x)) ?_
  refine AK (AO rfl (kn rfl) agg_101 sz_101) ?_
  refine BB 12 [.is (.int .i64 0),.is (.int .u64 0),.is (.string ⟨#[]⟩),.is (.slice none 0 0),.is (.string ⟨#[]⟩),.is (.slice none 0 0),.is (.slice none 0 0),.is (.int .i64 0),.is (.int .u64 0),.is (.string ⟨#[]⟩),.is (.slice none 0 0),.is (.string ⟨#[]⟩),.is (.slice none 0 0),.is (.slice none 0 0)] rfl rfl rfl rfl zr_101 (fun w D M V=>⟨rfl,fun j x v h1 h2=>BA _ h1 h2 rfl⟩) rfl rfl rfl rfl ?_
  refine B2 rfl rfl rfl (kn rfl) rfl (kn rfl) rfl rfl sz_101 ?_
  refine AD ?_
  try refine A1 ?_
  refine A0 (A8 rfl rfl rfl rfl rfl (A4 rfl rfl rfl (A6 rfl (kn rfl) (kn rfl) CW) .nil)) ?_
  try refine A1 ?_
  refine AB rfl (fun h2=>?_) (fun h2=>?_)
  ·have hM:=of_decide_eq_true h2
   rw[GF hM]at hft
   have hbd:=GH d x.1 M hM
   try refine A1 ?_
   refine A0 (A4 rfl rfl rfl (A3 rfl (kn rfl) off_101_0) (A4 rfl rfl rfl (A9 (ds:=[_,_,_,_,_,_,_]) 7 rfl (kn rfl) rfl rfl agg_27 sz_27 rfl) (A8 rfl rfl rfl rfl rfl (A8 rfl rfl rfl rfl rfl (A4 rfl rfl rfl (A6 rfl (kn rfl) (kn rfl) (JZ d hd)) (A4 rfl rfl rfl (AH rfl (by kernel_rfl) (ih x.1 M (hv.pair (List.mem_of_getElem? hx)).1 hM (by omega)) ⟨(kn rfl),⟨(kn rfl),⟨(kn rfl),trivial⟩⟩⟩) (AC rfl rfl rfl rfl rfl .nil))))))) ?_
   try refine A1 ?_
   try refine A1 ?_
   refine A0 (A8 rfl rfl rfl rfl rfl (A4 rfl rfl rfl (A6 rfl (kn rfl) (kn rfl) CW) .nil)) ?_
   try refine A1 ?_
   refine AB rfl (fun h3=>?_) (fun h3=>?_)
   ·have hM2:=of_decide_eq_true h3
    rw[GF hM2]at hft
    try refine A1 ?_
    refine A0 (A4 rfl rfl rfl (A3 rfl (kn rfl) off_101_1) (A4 rfl rfl rfl (A9 (ds:=[_,_,_,_,_,_,_]) 7 rfl (kn rfl) rfl rfl agg_27 sz_27 rfl) (A8 rfl rfl rfl rfl rfl (A8 rfl rfl rfl rfl rfl (A4 rfl rfl rfl (A6 rfl (kn rfl) (kn rfl) (JZ d hd)) (A4 rfl rfl rfl (AH rfl (by kernel_rfl) (ih x.2 (B4 d x.1 M) (hv.pair (List.mem_of_getElem? hx)).2 hM2 (by omega)) ⟨(kn rfl),⟨(kn rfl),⟨(kn rfl),trivial⟩⟩⟩) (AC rfl rfl rfl rfl rfl .nil))))))) ?_
    try refine A1 ?_
    try refine A1 ?_
    refine A0 (A4 rfl rfl rfl (A6 rfl (kn rfl) (kn rfl) (AW (by first | omega | (dsimp only;omega)))) (A8 rfl rfl rfl rfl rfl .nil)) ?_
    try refine A1 ?_
    refine AV ⟨k+1,by omega⟩ (by dsimp only;omega) (fun K=>AM ⟨⟨_,rfl,Imp.of_eq (by rw[hft])⟩,s_t,s_t,s_t,s_t,s_t,trivial⟩ ⟨s_b,trivial⟩ trivial)
   ·rw[FK (of_decide_eq_false h3)]at hft
    try refine A1 ?_
    refine A0 (A4 rfl rfl rfl (A6 rfl (kn rfl) (kn rfl) (AW (by first | omega | (dsimp only;omega)))) (A8 rfl rfl rfl rfl rfl .nil)) ?_
    try refine A1 ?_
    refine AV ⟨k+1,by omega⟩ (by dsimp only;omega) (fun K=>AM ⟨⟨_,rfl,Imp.of_eq (by rw[hft])⟩,s_t,s_t,s_t,s_t,s_t,trivial⟩ ⟨s_b,trivial⟩ trivial)
  ·rw[FK (of_decide_eq_false h2),FK (of_decide_eq_false h2)]at hft
   try refine A1 ?_
   refine A0 (A8 rfl rfl rfl rfl rfl (A4 rfl rfl rfl (A6 rfl (kn rfl) (kn rfl) CW) .nil)) ?_
   try refine A1 ?_
   refine AB rfl (fun h3=>?_) (fun h3=>?_)
   ·exact absurd (of_decide_eq_true h3) (of_decide_eq_false h2)
   try refine A1 ?_
   refine A0 (A4 rfl rfl rfl (A6 rfl (kn rfl) (kn rfl) (AW (by first | omega | (dsimp only;omega)))) (A8 rfl rfl rfl rfl rfl .nil)) ?_
   try refine A1 ?_
   refine AV ⟨k+1,by omega⟩ (by dsimp only;omega) (fun K=>AM ⟨⟨_,rfl,Imp.of_eq (by rw[hft])⟩,s_t,s_t,s_t,s_t,s_t,trivial⟩ ⟨s_b,trivial⟩ trivial)
 obtain rfl:k=v.pairs.length:=by have:=of_decide_eq_false h;omega
 rw[List.take_length]
 try refine A1 ?_
 refine A0 (A8 rfl rfl rfl rfl rfl (AC rfl rfl rfl rfl rfl .nil)) ?_
 try refine A1 ?_
 exact A7 rfl rfl (.tmp (kn rfl) (.nil)) (Imp.of_eq (by rw[e2];rfl)) rfl
theorem OA:∀ d:Nat,d<=1000->MK d
 | 0,_=>P2
 | d+1,h=>PT d (by omega) (OA d (by omega))
def P1(v:Vl)(most:Int):Bool:=decide (B4 30 v most<0)
theorem IG(v:Vl)(most:Int)(hv:v.Fine)(h0:0<=most)(h1:most<=1000000):EF Try.prog [] 33 [.many (vd v),iP most] (.part (tP (P1 v most))):=by
 refine AF 9 Try.func33 rfl rfl rfl fun w D=>?_
 try refine A1 ?_
 refine AG ?_
 refine BV 2 rfl rfl rfl rfl (kn rfl) rfl rfl rfl rfl ?_
 refine BW ?_
 refine AD ?_
 try refine A1 ?_
 refine A0 (A4 rfl rfl rfl (A9 (ds:=[_,_,_,_,_,_,_]) 7 rfl (kn rfl) rfl rfl agg_27 sz_27 rfl) (A8 rfl rfl rfl rfl rfl (A4 rfl rfl rfl (AH rfl (by kernel_rfl) (OA 30 (by omega) v most hv h0 h1) ⟨(kn rfl),⟨(kn rfl),⟨(kn rfl),trivial⟩⟩⟩) (A4 rfl rfl rfl (A6 rfl (kn rfl) (kn rfl) BM) (AC rfl rfl rfl rfl rfl .nil))))) ?_
 try refine A1 ?_
 exact A7 rfl rfl (.tmp (kn rfl) (.nil)) (Imp.of_eq rfl) rfl
theorem TH{v:Vl}{most:Int}(h0:0<=most)(h:P1 v most=false):(vnodes v:Int)<=most/\v.Tx:=by
 have h1:=of_decide_eq_false h
 have h2:=LN 30 v most h0 (by omega)
 exact⟨by omega,h2.2.tx⟩
end Go.Proofs.Ytecfdcdkkgmkpaa
