/- Part 17. Conditions: as each theorem says. -/
import Derived.Test.YtgcphgdkddihcaaGreatDoorSR16
import Derived.Test.YtgcphgdkddihcaaGreatDoorProg
set_option maxRecDepth 100000
namespace Go.Proofs.YtgcphgdkddihcaaGreatDoor
open Go.RowKit
section
abbrev gC(er:Nat->Er):List (Nat×List Value):=[gK,(4,[eV (er 1)]),(0,[eV (er 3)]),(1,[eV (er 9)]),(11,[eV (er 10)]),(2,[eV (er 11)]),(12,[eV (er 12)])]
section
variable(er:Nat->Er)
theorem gc0:gK∈gC er:=.head _
theorem gc1:(4,[eV (er 1)])∈gC er:=.tail _ (.head _)
theorem gc3:(0,[eV (er 3)])∈gC er:=.tail _ (.tail _ (.head _))
theorem gc9:(1,[eV (er 9)])∈gC er:=.tail _ (.tail _ (.tail _ (.head _)))
theorem Q7x:(11,[eV (er 10)])∈gC er:=.tail _ (.tail _ (.tail _ (.tail _ (.head _))))
theorem Q6z:(2,[eV (er 11)])∈gC er:=.tail _ (.tail _ (.tail _ (.tail _ (.tail _ (.head _)))))
theorem Q6U:(12,[eV (er 12)])∈gC er:=.tail _ (.tail _ (.tail _ (.tail _ (.tail _ (.tail _ (.head _))))))
end
theorem G2(gls:List (Nat×List Value))(line col:Int)(v:Er):EF Tryz.prog gls 82 [iP line,iP col,.one (.cell (eV v))] (.part (.one (sfD line col v))):=by
 refine AU 13 Tryz.func82 rfl rfl rfl fun w D=>?_
 try refine A0 ?_
 refine A1 (AE rfl rfl rfl rfl rfl .nil) ?_
 try refine A0 ?_
 refine A8 ?_
 refine AJ ?_
 refine AJ ?_
 refine AJ ?_
 refine AB (B9 (ds:=[_,_,_]) [(0,_),(1,_),(2,_)] rfl ⟨rfl,(kn rfl),⟨rfl,(kn rfl),⟨rfl,(kn rfl),trivial⟩⟩⟩ rfl pl_126 zr_126 (fun w D=>.cons (.cell _) (.cons (.cell _) (.cons (.cell _) (.nil _ _)))) rfl) ?_
 refine DZ 11 rfl rfl rfl rfl (kn rfl) rfl rfl rfl rfl ?_
 refine FA 11 11 rfl rfl rfl ?_
 refine ES rfl rfl rfl (WG rfl (kn rfl) (by kernel_rfl)) ?_
 refine AG ?_
 refine A6 ?_
 try refine A0 ?_
 exact AM rfl rfl (.tmp (kn rfl) (.nil)) (Imp.refl _) rfl
abbrev Ru:=FuncId×Bool×Er
def ruD(r:Ru):List Dat:=[.cell (.func (.func r.1) #[] #[]),.cell (eV r.2.2)]
theorem Q5w(r:Ru):(ruD r).length=2:=rfl
def H5:List Ru->Option Er
 | []=>none
 | r::l=>if r.2.1 then H5 l else some r.2.2
def ruA(x:Fld):Option Er->Part
 | none=>IS
 | some e=>.one (sfD x.line x.col e)
theorem Q0m{rs:List Ru}{k:Nat}{r:Ru}{z:Option Er}(hr:rs[k]?=some r)(hw:z=H5 (rs.drop k))(h:r.2.1=true):z=H5 (rs.drop (k+1)):=by
 rw[hw,G8 hr,H5,if_pos h]
theorem Q4s{rs:List Ru}{k:Nat}{r:Ru}{z:Option Er}(hr:rs[k]?=some r)(hw:z=H5 (rs.drop k))(h:r.2.1=false):z=some r.2.2:=by
 rw[hw,G8 hr,H5,if_neg (by rw[h];decide)]
theorem Q3j{rs:List Ru}{k:Nat}{z:Option Er}(hl:rs.length<=k)(hw:z=H5 (rs.drop k)):z=none:=by
 rw[hw,List.drop_eq_nil_of_le hl,H5]
theorem Q2H(gls:List (Nat×List Value))(m:Msg)(i:Nat)(x:Fld)(k t:Int)(b:Bool)(rs:List Ru)(hl:rs.length<=1000)(hrs:EF Tryz.prog gls 139 [] (.part (.one (.row 2 rs.length (rs.flatMap ruD)))))(hc:∀ r∈rs,BU Tryz.prog r.1=true)(he:∀ r∈rs,EF Tryz.prog gls r.1 [drP m i x k t b] (.part (bP r.2.1))):
  EF Tryz.prog gls 87 [drP m i x k t b] (.part (ruA x (H5 rs))):=by
 refine AU 30 Tryz.func87 rfl rfl rfl fun w D=>?_
 try refine A0 ?_
 refine A1 (AE rfl rfl rfl rfl rfl .nil) ?_
 try refine A0 ?_
 refine A1 (A5 rfl rfl rfl (AY rfl (by kernel_rfl) (hrs) trivial) (A5 rfl rfl rfl (CI rfl (kn rfl) sle_277) (AA rfl rfl rfl rfl rfl .nil))) ?_
 try refine A0 ?_
 refine CB (ι:={ j:Nat // j<=rs.length/\H5 rs=H5 (rs.drop j) })
  (fun j=>[(0,.part (drP m i x k t b)),(5,.part (.one (.row 2 rs.length (rs.flatMap ruD)))),(6,.is (.int .i64 (rs.length:Int))),(7,.is (.int .i64 (j.1:Int)))])
  (fun _=>[]) (fun _=>[]) (fun j=>rs.length-j.1) ⟨0,by omega,rfl⟩
  (fun K=>B8 ⟨s_t,s_t,s_t,s_t,trivial⟩ trivial trivial) ?_
 rintro⟨j,hj,hw⟩
 dsimp only at hj hw ⊢
 try refine A0 ?_
 refine A1 (A5 rfl rfl rfl (AN rfl (kn rfl) (kn rfl) CP) .nil) ?_
 try refine A0 ?_
 refine AO rfl (fun h=>?_) (fun h=>?_)
 ·have hlt:j<rs.length:=by have:=of_decide_eq_true h;omega
  obtain⟨r,hr⟩:∃ r,rs[j]?=some r:=⟨_,List.getElem?_eq_getElem hlt⟩
  have hm:=List.mem_of_getElem? hr
  try refine A0 ?_
  refine A8 ?_
  refine AB (BO rfl (kn rfl) (kn rfl) (by omega) hr Q5w sle_277 esz_277 rfl) ?_
  refine AB (BQ rfl (kn rfl) agg_281 sz_281) ?_
  refine AS 4 [.is (.nilFunc),.is (.nilIface)] rfl rfl rfl rfl zr_281 (fun w D M V=>⟨rfl,fun j x v h1 h2=>AR _ h1 h2 rfl⟩) rfl rfl rfl rfl ?_
  refine AI rfl rfl rfl (kn rfl) rfl (kn rfl) rfl rfl sz_281 ?_
  refine A6 ?_
  try refine A0 ?_
  refine A1 (A5 rfl rfl rfl (A3 rfl (kn rfl) off_281_0) (A5 rfl rfl rfl (A4 rfl (kn rfl) rfl rfl one_279) (AA rfl rfl rfl rfl rfl (A5 rfl rfl rfl (Q5N (ps:=[drP m i x k t b]) rfl (hc r hm) (kn rfl) (he r hm) ⟨kn rfl,trivial⟩) (A5 rfl rfl rfl (DL rfl (kn rfl)) .nil))))) ?_
  try refine A0 ?_
  refine AO rfl (fun h1=>?_) (fun h1=>?_)
  ·have e:=Q4s hr hw (by simpa using h1)
   rw[e]
   try refine A0 ?_
   refine FI mixed (by kernel_rfl) (AA rfl rfl rfl rfl rfl (A5 rfl rfl rfl (AW rfl (kq rfl)) (A5 rfl rfl rfl (AF rfl (kn rfl) off_212_2) (A5 rfl rfl rfl (AF rfl (kn rfl) off_210_8) (A5 rfl rfl rfl (AD rfl (kn rfl) one_3) (AA rfl rfl rfl rfl rfl (A5 rfl rfl rfl (AW rfl (kq rfl)) (A5 rfl rfl rfl (AF rfl (kn rfl) off_212_2) (A5 rfl rfl rfl (AF rfl (kn rfl) off_210_9) (A5 rfl rfl rfl (AD rfl (kn rfl) one_3) (A5 rfl rfl rfl (A3 rfl (kn rfl) off_281_1) (A5 rfl rfl rfl (A4 rfl (kn rfl) rfl rfl one_28) (A5 rfl rfl rfl (AY rfl (by kernel_rfl) (G2 gls x.line x.col r.2.2) ⟨(kn rfl),⟨(kn rfl),⟨(kn rfl),trivial⟩⟩⟩) (AE rfl rfl rfl rfl rfl .nil)))))))))))))) ?_
   try refine A0 ?_
   exact AM rfl rfl (.tmp (kn rfl) (.nil)) (Imp.refl _) rfl
  try refine A0 ?_
  refine A1 (A5 rfl rfl rfl (AN rfl (kn rfl) (kn rfl) (BF (by first | omega | (dsimp only;omega)))) (AA rfl rfl rfl rfl rfl .nil)) ?_
  try refine A0 ?_
  refine BB ⟨j+1,by omega,Q0m hr hw (by simpa using h1)⟩ (by dsimp only;omega) (fun K=>B8 ⟨s_t,s_t,s_t,s_t,trivial⟩ trivial trivial)
 have e:=Q3j (by have:=of_decide_eq_false h;omega) hw
 rw[e]
 try refine A0 ?_
 refine A1 (AE rfl rfl rfl rfl rfl .nil) ?_
 try refine A0 ?_
 exact AM rfl rfl (.tmp (kn rfl) (.nil)) (Imp.refl _) rfl
def JA(er:Nat->Er)(m:Msg)(i:Nat)(x:Fld)(k:Int)(b:Bool):List Ru:=[(177,decide (i<40),er 3),(178,GS x.number,er 1),(179,XG (m.fields.take i) x,er 11),(180,XK m x,er 9),(181,b,er 10),(182,PC x,er 12),(183,ZD x k,er 12),(184,XC x k,er 12)]
set_option maxHeartbeats 1000000 in
theorem Q4V(er:Nat->Er)(m:Msg)(i:Nat)(x:Fld)(k:Int)(b:Bool):EF Tryz.prog (gC er) 139 [] (.part (.one (.row 2 (JA er m i x k b).length ((JA er m i x k b).flatMap ruD)))):=by
 refine AU 18 Tryz.func139 rfl rfl rfl fun w D=>?_
 try refine A0 ?_
 refine A1 (AE rfl rfl rfl rfl rfl .nil) ?_
 try refine A0 ?_
 refine A1 (A5 rfl rfl rfl (C4 rfl (kn rfl) (gc3 er) one_28) (A5 rfl rfl rfl (B9 (ds:=[_,_]) [(0,_),(1,_)] rfl ⟨rfl,(kn rfl),⟨rfl,(kn rfl),trivial⟩⟩ rfl pl_281 zr_281 (fun w D=>.cons (.cell _) (.cons (.cell _) (.nil _ _))) rfl) (A5 rfl rfl rfl (C4 rfl (kn rfl) (gc1 er) one_28) (A5 rfl rfl rfl (B9 (ds:=[_,_]) [(0,_),(1,_)] rfl ⟨rfl,(kn rfl),⟨rfl,(kn rfl),trivial⟩⟩ rfl pl_281 zr_281 (fun w D=>.cons (.cell _) (.cons (.cell _) (.nil _ _))) rfl) (A5 rfl rfl rfl (C4 rfl (kn rfl) (Q6z er) one_28) (A5 rfl rfl rfl (B9 (ds:=[_,_]) [(0,_),(1,_)] rfl ⟨rfl,(kn rfl),⟨rfl,(kn rfl),trivial⟩⟩ rfl pl_281 zr_281 (fun w D=>.cons (.cell _) (.cons (.cell _) (.nil _ _))) rfl) (A5 rfl rfl rfl (C4 rfl (kn rfl) (gc9 er) one_28) (A5 rfl rfl rfl (B9 (ds:=[_,_]) [(0,_),(1,_)] rfl ⟨rfl,(kn rfl),⟨rfl,(kn rfl),trivial⟩⟩ rfl pl_281 zr_281 (fun w D=>.cons (.cell _) (.cons (.cell _) (.nil _ _))) rfl) (A5 rfl rfl rfl (C4 rfl (kn rfl) (Q7x er) one_28) (A5 rfl rfl rfl (B9 (ds:=[_,_]) [(0,_),(1,_)] rfl ⟨rfl,(kn rfl),⟨rfl,(kn rfl),trivial⟩⟩ rfl pl_281 zr_281 (fun w D=>.cons (.cell _) (.cons (.cell _) (.nil _ _))) rfl) (A5 rfl rfl rfl (C4 rfl (kn rfl) (Q6U er) one_28) (A5 rfl rfl rfl (B9 (ds:=[_,_]) [(0,_),(1,_)] rfl ⟨rfl,(kn rfl),⟨rfl,(kn rfl),trivial⟩⟩ rfl pl_281 zr_281 (fun w D=>.cons (.cell _) (.cons (.cell _) (.nil _ _))) rfl) (A5 rfl rfl rfl (C4 rfl (kn rfl) (Q6U er) one_28) (A5 rfl rfl rfl (B9 (ds:=[_,_]) [(0,_),(1,_)] rfl ⟨rfl,(kn rfl),⟨rfl,(kn rfl),trivial⟩⟩ rfl pl_281 zr_281 (fun w D=>.cons (.cell _) (.cons (.cell _) (.nil _ _))) rfl) (A5 rfl rfl rfl (C4 rfl (kn rfl) (Q6U er) one_28) (A5 rfl rfl rfl (B9 (ds:=[_,_]) [(0,_),(1,_)] rfl ⟨rfl,(kn rfl),⟨rfl,(kn rfl),trivial⟩⟩ rfl pl_281 zr_281 (fun w D=>.cons (.cell _) (.cons (.cell _) (.nil _ _))) rfl) (A5 rfl rfl rfl (AC (ds:=[_,_,_,_,_,_,_,_,_,_,_,_,_,_,_,_]) [(0,_),(1,_),(2,_),(3,_),(4,_),(5,_),(6,_),(7,_)] rfl ⟨rfl,(kn rfl),⟨rfl,(kn rfl),⟨rfl,(kn rfl),⟨rfl,(kn rfl),⟨rfl,(kn rfl),⟨rfl,(kn rfl),⟨rfl,(kn rfl),⟨rfl,(kn rfl),trivial⟩⟩⟩⟩⟩⟩⟩⟩ rfl sl_277 sz_281 zr_281 (fun w D=>.cons (.cell _) (.cons (.cell _) (.cons (.cell _) (.cons (.cell _) (.cons (.cell _) (.cons (.cell _) (.cons (.cell _) (.cons (.cell _) (.cons (.cell _) (.cons (.cell _) (.cons (.cell _) (.cons (.cell _) (.cons (.cell _) (.cons (.cell _) (.cons (.cell _) (.cons (.cell _) (.nil _ _))))))))))))))))) rfl rfl rfl rfl rfl) (AE rfl rfl rfl rfl rfl .nil)))))))))))))))))) ?_
 try refine A0 ?_
 exact AM rfl rfl (.tmp (kn rfl) (.nil)) (Imp.of_eq rfl) rfl
theorem Q4J(er:Nat->Er)(m:Msg)(i:Nat)(x:Fld)(k t:Int)(b:Bool)(hm:m.fields.length<=100000000000)(hi:i<=m.fields.length)(h1:m.reserved.length<=100000000000)(h2:m.names.length<=100000000000):EF Tryz.prog (gC er) 87 [drP m i x k t b] (.part (ruA x (H5 (JA er m i x k b)))):=by
 refine Q2H (gC er) m i x k t b (JA er m i x k b) (by show 8<=1000;omega) (Q4V er m i x k b) (fun r hr=>?_) (fun r hr=>?_)
 ·simp only[JA,List.mem_cons,List.not_mem_nil,or_false]at hr
  rcases hr with rfl | rfl | rfl | rfl | rfl | rfl | rfl | rfl<;>kernel_rfl
 ·simp only[JA,List.mem_cons,List.not_mem_nil,or_false]at hr
  rcases hr with rfl | rfl | rfl | rfl | rfl | rfl | rfl | rfl
  ·exact Q0a m i x k t b
  ·exact XS m i x k t b
  ·exact Q4P m i x k t b hm hi
  ·exact Q3e m i x k t b h1 h2
  ·exact Q06 m i x k t b
  ·exact TF (gc0 er) m i x k t b
  ·exact TN (gc0 er) m i x k t b
  ·exact Q1h m i x k t b
def CK(look:List UInt8->Option Ty)(name:List UInt8):Int×Int×Bool:=match IA look name with | none=>(0,0,false) | some (k,t)=>(k,t,true)
theorem Q0U(er:Nat->Er)(look:List UInt8->Option Ty)(m:Msg)(i:Nat)(x:Fld):
  (∃ n,MI look m i x=.error n/\H5 (JA er m i x (CK look x.type).1 (CK look x.type).2.2)=some (er n))\/(MI look m i x=.ok (MO x (CK look x.type).1 (CK look x.type).2.1)/\H5 (JA er m i x (CK look x.type).1 (CK look x.type).2.2)=none):=by
 unfold MI JA CK
 simp only[H5]
 by_cases h1:i<40
 ·rw[if_neg (fun h=>h h1),if_pos (decide_eq_true h1)]
  cases h2:GS x.number
  ·exact .inl ⟨1,by simp,by simp⟩
  ·cases h3:XG (m.fields.take i) x
   ·exact .inl ⟨11,by simp,by simp⟩
   ·cases h4:XK m x
    ·exact .inl ⟨9,by simp,by simp⟩
    ·cases h5:IA look x.type with
     | none=>exact .inl ⟨10,by simp,by simp⟩
     | some kt=>
      obtain⟨k,t⟩:=kt
      cases h6:PC x
      ·exact .inl ⟨12,by simp[h6],by simp⟩
      ·cases h7:ZD x k
       ·exact .inl ⟨12,by simp[h6,h7],by simp[h7]⟩
       ·cases h8:XC x k
        ·exact .inl ⟨12,by simp[h6,h7,h8],by simp[h7,h8]⟩
        ·exact .inr ⟨by simp[h6,h7,h8],by simp[h7,h8]⟩
 ·exact .inl ⟨3,by rw[if_pos h1],by rw[if_neg (by simpa using h1)]⟩
def fdD(f:Fd):List Dat:=[.cell (.string (str f.name)),.cell (.int .i64 f.number),.cell (.int .i64 f.label),.cell (.int .i64 f.kind),.cell (.int .i64 f.type),bD f.packed,.cell (.int .i64 f.key),.cell (.int .i64 f.mapKey),.cell (.int .i64 f.oneof)]
theorem G5(f:Fd):(fdD f).length=9:=rfl
set_option maxHeartbeats 1000000 in
theorem SG(er:Nat->Er)(m:Msg)(i:Nat)(x:Fld)(k t:Int)(b:Bool)(hx:x.name.length<=140737488351232):EF Tryz.prog (gC er) 90 [drP m i x k t b] (.part (.many (fdD (MO x k t)))):=by
 refine AU 57 Tryz.func90 rfl rfl rfl fun w D=>?_
 try refine A0 ?_
 refine A8 ?_
 refine AS 2 [.is (.string ⟨#[]⟩),.is (.int .i64 0),.is (.int .i64 0),.is (.int .i64 0),.is (.int .i64 0),.is (.bool false),.is (.int .i64 0),.is (.int .i64 0),.is (.int .i64 0)] rfl rfl rfl rfl zr_61 (fun w D M V=>⟨rfl,fun j x v h1 h2=>AR _ h1 h2 rfl⟩) rfl rfl rfl rfl ?_
 refine A6 ?_
 try refine A0 ?_
 refine LS 40 3 ([(43,_),(0,.part (drP m i x k t b)),(2,.box 2 0)]) mixed (by kernel_rfl) rfl rfl rfl rfl rfl zr_61 rfl rfl rfl rfl (AA rfl rfl rfl rfl rfl (A5 rfl rfl rfl (AW rfl (kq rfl)) (A5 rfl rfl rfl (AF rfl (kn rfl) off_212_2) (A5 rfl rfl rfl (AF rfl (kn rfl) off_210_0) (A5 rfl rfl rfl (AD rfl (kn rfl) one_9) (A5 rfl rfl rfl (AY rfl (by kernel_rfl) (K4 _ x.name hx) ⟨(kn rfl),trivial⟩) (AA rfl rfl rfl rfl rfl (A5 rfl rfl rfl (AW rfl (kq rfl)) (A5 rfl rfl rfl (AF rfl (kn rfl) off_212_2) (A5 rfl rfl rfl (AF rfl (kn rfl) off_210_5) (A5 rfl rfl rfl (AD rfl (kn rfl) one_3) (AA rfl rfl rfl rfl rfl (A5 rfl rfl rfl (AW rfl (kq rfl)) (A5 rfl rfl rfl (AF rfl (kn rfl) off_212_2) (A5 rfl rfl rfl (AF rfl (kn rfl) off_210_4) (A5 rfl rfl rfl (AD rfl (kn rfl) one_3) (AA rfl rfl rfl rfl rfl (A5 rfl rfl rfl (AW rfl (kq rfl)) (A5 rfl rfl rfl (AF rfl (kn rfl) off_212_3) (A5 rfl rfl rfl (AD rfl (kn rfl) one_3) (AA rfl rfl rfl rfl rfl (A5 rfl rfl rfl (AW rfl (kq rfl)) (A5 rfl rfl rfl (AF rfl (kn rfl) off_212_4) (A5 rfl rfl rfl (AD rfl (kn rfl) one_3) (AA rfl rfl rfl rfl rfl (A5 rfl rfl rfl (AY rfl (by kernel_rfl) (RG (gc0 er) m i x k t b) ⟨(kn rfl),trivial⟩) (AA rfl rfl rfl rfl rfl (Walk.gd _ rfl rfl rfl (fun h=>C8 rfl (kn rfl)) (Walk.gd _ rfl rfl rfl (fun h=>AW rfl (EU (A9 rfl h) (Imp.ptr_ref _ _))) (Walk.gd _ rfl rfl rfl (fun h=>AF rfl (A9 rfl h) off_212_2) (Walk.gd _ rfl rfl rfl (fun h=>AF rfl (A9 rfl h) off_210_6) (Walk.gd _ rfl rfl rfl (fun h=>AD rfl (A9 rfl h) one_3) (Walk.gd _ rfl rfl rfl (fun h=>AN rfl (A9 rfl h) (kn rfl) LI) (A5 rfl rfl rfl (EC rfl (kn rfl) (fun hb=>A9 rfl hb)) (AA rfl rfl rfl rfl rfl (A5 rfl rfl rfl (AW rfl (kq rfl)) (A5 rfl rfl rfl (AF rfl (kn rfl) off_212_2) (A5 rfl rfl rfl (AF rfl (kn rfl) off_210_7) (A5 rfl rfl rfl (AD rfl (kn rfl) one_3) (A5 rfl rfl rfl (B9 (ds:=[_,_,_,_,_,_,_,_,_]) [(0,_),(1,_),(2,_),(3,_),(4,_),(5,_),(8,_)] rfl ⟨rfl,(kn rfl),⟨rfl,(kn rfl),⟨rfl,(kn rfl),⟨rfl,(kn rfl),⟨rfl,(kn rfl),⟨rfl,(kn rfl),⟨rfl,(kn rfl),trivial⟩⟩⟩⟩⟩⟩⟩ rfl pl_61 zr_61 (fun w D=>.cons (.cell _) (.cons (.cell _) (.cons (.cell _) (.cons (.cell _) (.cons (.cell _) (.cons (.cell _) (.cons (.cell _) (.cons (.cell _) (.cons (.cell _) (.nil _ _)))))))))) rfl) .nil)))))))))))))))))))))))))))))))))))))))) ⟨.inl ⟨rfl,rfl⟩,.inr ⟨rfl,rfl⟩,.inr ⟨rfl,rfl⟩,trivial⟩ ?_
 refine AI rfl rfl rfl (kn rfl) rfl (kn rfl) rfl rfl sz_61 ?_
 refine A6 ?_
 try refine A0 ?_
 refine A1 (AA rfl rfl rfl rfl rfl (A5 rfl rfl rfl (AY rfl (by kernel_rfl) (ZE m i x k t b) ⟨(kn rfl),trivial⟩) .nil)) ?_
 try refine A0 ?_
 refine AO rfl (fun h=>?_) (fun h=>?_)
 ·try refine A0 ?_
  refine A8 ?_
  refine AJ ?_
  refine AB (AW rfl (kq rfl)) ?_
  refine AB (AF rfl (kn rfl) off_212_2) ?_
  refine AB (AF rfl (kn rfl) off_210_2) ?_
  refine AB (AD rfl (kn rfl) one_9) ?_
  refine AB (AY rfl (by kernel_rfl) (Q0Z (gc0 er) x.mapKey) ⟨(kn rfl),trivial⟩) ?_
  refine AJ ?_
  refine B3 ?_
  refine B3 ?_
  refine AB (A3 rfl (kn rfl) off_61_7) ?_
  refine C3 rfl rfl rfl (kn rfl) rfl (kn rfl) rfl rfl sz_3 rfl ?_
  refine A6 ?_
  try refine A0 ?_
  refine A8 ?_
  refine AB (AT (ds:=[_,_,_,_,_,_,_,_,_]) 9 rfl (kn rfl) rfl rfl agg_61 sz_61 rfl) ?_
  refine AI rfl rfl rfl (kn rfl) rfl (kn rfl) rfl rfl sz_61 ?_
  refine A6 ?_
  try refine A0 ?_
  exact AM rfl rfl (.cell rfl rfl rfl agg_61 sz_61 rfl (.nil)) (Imp.of_eq (by unfold MO;rw[if_pos h];rfl)) rfl
 try refine A0 ?_
 refine A8 ?_
 refine AB (AT (ds:=[_,_,_,_,_,_,_,_,_]) 9 rfl (kn rfl) rfl rfl agg_61 sz_61 rfl) ?_
 refine AI rfl rfl rfl (kn rfl) rfl (kn rfl) rfl rfl sz_61 ?_
 refine A6 ?_
 try refine A0 ?_
 exact AM rfl rfl (.cell rfl rfl rfl agg_61 sz_61 rfl (.nil)) (Imp.of_eq (by unfold MO;rw[if_neg (by rw[h];decide)];rfl)) rfl
theorem Q2r(er:Nat->Er)(L:List Ty)(hL:GC L)(rest:List Dat)(scope name:List UInt8)(h1:scope.length<=100000000)(h2:name.length<=100000000):EF Tryz.prog (gC er) 86 [.one (.ptr 95 (Q3K L::rest)),sP scope,sP name] (.tup [iP (CK (BJ L scope) name).1,iP (CK (BJ L scope) name).2.1,bP (CK (BJ L scope) name).2.2]):=by
 refine AU 40 Tryz.func86 rfl rfl rfl fun w D=>?_
 try refine A0 ?_
 refine A1 (AE rfl rfl rfl rfl rfl (AE rfl rfl rfl rfl rfl (AE rfl rfl rfl rfl rfl .nil))) ?_
 try refine A0 ?_
 refine A1 (AA rfl rfl rfl rfl rfl (A5 rfl rfl rfl (AY rfl (by kernel_rfl) (Q0Z (gc0 er) name) ⟨(kn rfl),trivial⟩) (AA rfl rfl rfl rfl rfl (A5 rfl rfl rfl (BN rfl (kn rfl) rfl) (A5 rfl rfl rfl (BN rfl (kn rfl) rfl) (AE rfl rfl rfl rfl rfl (AE rfl rfl rfl rfl rfl .nil))))))) ?_
 try refine A0 ?_
 refine A1 (AA rfl rfl rfl rfl rfl .nil) ?_
 try refine A0 ?_
 unfold CK IA
 refine AO rfl (fun h=>?_) (fun h=>?_)
 ·rw[if_pos (of_decide_eq_true h)]
  try refine A0 ?_
  refine A1 (AA rfl rfl rfl rfl rfl (AE rfl rfl rfl rfl rfl (AE rfl rfl rfl rfl rfl (AE rfl rfl rfl rfl rfl .nil)))) ?_
  try refine A0 ?_
  exact AM rfl rfl (.tmp (kn rfl) (.tmp (kn rfl) (.tmp (kn rfl) (.nil)))) (Imp.refl _) rfl
 rw[if_neg (of_decide_eq_false h)]
 try refine A0 ?_
 refine A8 ?_
 refine AJ ?_
 refine AB (AW rfl (kq rfl)) ?_
 refine AB (AF rfl (kn rfl) off_95_0) ?_
 refine AB (AD rfl (kn rfl) one_92) ?_
 refine AJ ?_
 refine AJ ?_
 refine KQ rfl rfl rfl rfl (by kernel_rfl) (Q5Z _ L hL scope name h1 h2) ⟨(kn rfl),⟨(kn rfl),⟨(kn rfl),trivial⟩⟩⟩ ?_
 rintro _ rfl
 refine AJ ?_
 refine B3 ?_
 refine B3 ?_
 refine AS 11 [.is (.string ⟨#[]⟩),.is (.bool false),.is (.int .i64 0),.is (.int .i64 0),.is (.int .i64 0)] rfl rfl rfl rfl zr_192 (fun w D M V=>⟨rfl,fun j x v h1 h2=>AR _ h1 h2 rfl⟩) rfl rfl rfl rfl ?_
 refine AI rfl rfl rfl (kn rfl) rfl (kn rfl) rfl rfl sz_192 ?_
 refine AG ?_
 refine A6 ?_
 try refine A0 ?_
 cases hr:BJ L scope name with
 | none=>
  refine A1 (AA rfl rfl rfl rfl rfl (A5 rfl rfl rfl (DL rfl (kn rfl)) (AE rfl rfl rfl rfl rfl .nil))) ?_
  try refine A0 ?_
  refine BD ?_
  try refine A0 ?_
  refine A1 (AE rfl rfl rfl rfl rfl (AE rfl rfl rfl rfl rfl (AE rfl rfl rfl rfl rfl .nil))) ?_
  try refine A0 ?_
  exact AM rfl rfl (.tmp (kn rfl) (.tmp (kn rfl) (.tmp (kn rfl) (.nil)))) (Imp.refl _) rfl
 | some x=>
  refine A1 (AA rfl rfl rfl rfl rfl (A5 rfl rfl rfl (DL rfl (kn rfl)) (AE rfl rfl rfl rfl rfl .nil))) ?_
  try refine A0 ?_
  refine C1 ?_
  try refine A0 ?_
  refine A1 (A5 rfl rfl rfl (A3 rfl (kn rfl) off_192_1) (A5 rfl rfl rfl (A4 rfl (kn rfl) rfl rfl one_4) (AE rfl rfl rfl rfl rfl .nil))) ?_
  try refine A0 ?_
  refine AO rfl (fun h=>?_) (fun h=>?_)
  ·try refine A0 ?_
   refine FI mixed (by kernel_rfl) (A5 rfl rfl rfl (A3 rfl (kn rfl) off_192_2) (A5 rfl rfl rfl (A4 rfl (kn rfl) rfl rfl one_3) (AE rfl rfl rfl rfl rfl (AE rfl rfl rfl rfl rfl (AE rfl rfl rfl rfl rfl .nil))))) ?_
   try refine A0 ?_
   exact AM rfl rfl (.tmp (kn rfl) (.tmp (kn rfl) (.tmp (kn rfl) (.nil)))) (Imp.of_eq (by rw[Option.map_some,show x.en=true from h];rfl)) rfl
  try refine A0 ?_
  refine FI mixed (by kernel_rfl) (A5 rfl rfl rfl (A3 rfl (kn rfl) off_192_2) (A5 rfl rfl rfl (A4 rfl (kn rfl) rfl rfl one_3) (AE rfl rfl rfl rfl rfl (AE rfl rfl rfl rfl rfl (AE rfl rfl rfl rfl rfl .nil))))) ?_
  try refine A0 ?_
  exact AM rfl rfl (.tmp (kn rfl) (.tmp (kn rfl) (.tmp (kn rfl) (.nil)))) (Imp.of_eq (by rw[Option.map_some,show x.en=false from h];rfl)) rfl
end
theorem Q3E(gls:List (Nat×List Value))(f:Fd):EF Tryz.prog gls 142 [.many (fdD f)] (.part (bP (E7 f))):=by
 refine AU 18 Tryz.func142 rfl rfl rfl fun w D=>?_
 try refine A0 ?_
 refine A8 ?_
 refine DZ 1 rfl rfl rfl rfl (kn rfl) rfl rfl rfl rfl ?_
 refine AG ?_
 refine A6 ?_
 try refine A0 ?_
 refine A1 (A5 rfl rfl rfl (A3 rfl (kn rfl) off_61_3) (A5 rfl rfl rfl (A4 rfl (kn rfl) rfl rfl one_3) .nil)) ?_
 try refine A0 ?_
 have no:∀ {b:Bool},(decide (f.kind=17)||decide (f.kind=1)||decide (f.kind=2)||decide (f.kind=15))=true->E7 f=false:=fun h=>by unfold E7;rw[h];rfl
 refine A1 (A5 rfl rfl rfl (AN rfl (kn rfl) (kn rfl) D3) (AE rfl rfl rfl rfl rfl .nil)) ?_
 try refine A0 ?_
 refine AO rfl (fun h=>?_) (fun h=>?_)
 ·have e:E7 f=false:=by unfold E7;rw[show decide (f.kind=17)=true from h];rfl
  rw[e]
  try refine A0 ?_
  refine AO rfl (fun _=>?_) (fun h2=>by rw[h]at h2;cases h2)
  try refine A0 ?_
  refine A1 (AE rfl rfl rfl rfl rfl .nil) ?_
  try refine A0 ?_
  exact AM rfl rfl (.tmp (kn rfl) (.nil)) (Imp.refl _) rfl
 try refine A0 ?_
 refine A1 (A5 rfl rfl rfl (AN rfl (kn rfl) (kn rfl) D3) (AE rfl rfl rfl rfl rfl .nil)) ?_
 try refine A0 ?_
 refine AO rfl (fun h2=>?_) (fun h2=>?_)
 ·have e:E7 f=false:=by unfold E7;rw[show decide (f.kind=1)=true from h2];simp
  rw[e]
  try refine A0 ?_
  refine AO rfl (fun _=>?_) (fun h3=>by rw[h2]at h3;cases h3)
  try refine A0 ?_
  refine A1 (AE rfl rfl rfl rfl rfl .nil) ?_
  try refine A0 ?_
  exact AM rfl rfl (.tmp (kn rfl) (.nil)) (Imp.refl _) rfl
 try refine A0 ?_
 refine A1 (A5 rfl rfl rfl (AN rfl (kn rfl) (kn rfl) D3) (AE rfl rfl rfl rfl rfl .nil)) ?_
 try refine A0 ?_
 refine AO rfl (fun h3=>?_) (fun h3=>?_)
 ·have e:E7 f=false:=by unfold E7;rw[show decide (f.kind=2)=true from h3];simp
  rw[e]
  try refine A0 ?_
  refine AO rfl (fun _=>?_) (fun h4=>by rw[h3]at h4;cases h4)
  try refine A0 ?_
  refine A1 (AE rfl rfl rfl rfl rfl .nil) ?_
  try refine A0 ?_
  exact AM rfl rfl (.tmp (kn rfl) (.nil)) (Imp.refl _) rfl
 try refine A0 ?_
 refine A1 (A5 rfl rfl rfl (AN rfl (kn rfl) (kn rfl) D3) (AE rfl rfl rfl rfl rfl .nil)) ?_
 try refine A0 ?_
 refine AO rfl (fun h4=>?_) (fun h4=>?_)
 ·have e:E7 f=false:=by unfold E7;rw[show decide (f.kind=15)=true from h4];simp
  rw[e]
  try refine A0 ?_
  refine A1 (AE rfl rfl rfl rfl rfl .nil) ?_
  try refine A0 ?_
  exact AM rfl rfl (.tmp (kn rfl) (.nil)) (Imp.refl _) rfl
 have e:E7 f=(decide (f.label=1)&&decide (f.oneof=0)):=by unfold E7;rw[show decide (f.kind=17)=false from h,show decide (f.kind=1)=false from h2,show decide (f.kind=2)=false from h3,show decide (f.kind=15)=false from h4];rfl
 rw[e]
 try refine A0 ?_
 refine A1 (A5 rfl rfl rfl (A3 rfl (kn rfl) off_61_2) (A5 rfl rfl rfl (A4 rfl (kn rfl) rfl rfl one_3) (A5 rfl rfl rfl (AN rfl (kn rfl) (kn rfl) D3) (AA rfl rfl rfl rfl rfl (Walk.gd _ rfl rfl rfl (fun h=>A3 rfl (kn rfl) off_61_8) (Walk.gd _ rfl rfl rfl (fun h=>A4 rfl (A9 rfl h) rfl rfl one_3) (Walk.gd _ rfl rfl rfl (fun h=>AN rfl (A9 rfl h) (kn rfl) D3) (A5 rfl rfl rfl (EC rfl (kn rfl) (fun hb=>A9 rfl hb)) (AE rfl rfl rfl rfl rfl .nil))))))))) ?_
 try refine A0 ?_
 exact AM rfl rfl (.tmp (kn rfl) (.nil)) (Imp.of_eq rfl) rfl
theorem Z6{α:Type}[DecidableEq α](c x:α)(d:Dat):∀ ps:List (α×Dat),DN x (GB c d ps)=if x=c then some d else DN x ps
 | []=>by
  unfold GB DN DN
  rfl
 | p::ps=>by
  unfold GB
  by_cases h:c=p.1
  ·rw[if_pos h]
   unfold DN
   by_cases h2:x=c
   ·rw[if_pos h2,if_pos h2]
   ·rw[if_neg h2,if_neg h2,if_neg (by rw[<- h];exact h2)]
  ·rw[if_neg h]
   unfold DN
   rw[Z6 c x d ps]
   by_cases h2:x=p.1
   ·rw[if_pos h2,if_pos h2,if_neg (by rw[h2];exact Ne.symm h)]
   ·rw[if_neg h2,if_neg h2]
def Takes(t:List (List UInt8))(ps:List (List UInt8×Dat)):Prop:=∀ c,(DN c ps).getD (bD false)=bD (t.any fun y=>decide (y=c))
theorem Takes.nil:Takes [] []:=fun _=>rfl
theorem Takes.add{t:List (List UInt8)}{ps:List (List UInt8×Dat)}(h:Takes t ps)(x:List UInt8):Takes (t++[x]) (GB x (bD true) ps):=fun c=>by
 rw[Z6,List.any_append]
 by_cases e:c=x
 ·subst e
  simp
 ·rw[if_neg e,h c]
  simp[Ne.symm e]
theorem Q30:Tryz.prog.underlying 284=some (.map 9 4):=by kernel_rfl
set_option maxHeartbeats 1000000 in
theorem Q4C(gls:List (Nat×List Value))(m:Msg)(h1:m.fields.length<=100000000000)(h2:m.oneofs.length<=100000000000):EF Tryz.prog gls 91 [.many (md m)] (.part (bP (LX (m.fields.map (·.name)) m.oneofs))):=by
 refine AU 33 Tryz.func91 rfl rfl rfl fun w D=>?_
 try refine A0 ?_
 refine A8 ?_
 refine DZ 1 rfl rfl rfl rfl (kn rfl) rfl rfl rfl rfl ?_
 refine AG ?_
 refine A6 ?_
 try refine A0 ?_
 refine A8 ?_
 refine Q1a 1001 1000000 1 rfl rfl rfl rfl rfl rfl ?_ rfl
 refine AG ?_
 refine A6 ?_
 try refine A0 ?_
 refine A1 (A5 rfl rfl rfl (A3 rfl (kn rfl) off_204_1) (A5 rfl rfl rfl (A4 rfl (kn rfl) rfl rfl one_201) (A5 rfl rfl rfl (CI rfl (kn rfl) sle_201) (AA rfl rfl rfl rfl rfl .nil)))) ?_
 try refine A0 ?_
 refine CB (ι:={ i:Nat×List (List UInt8×Dat) // i.1<=m.fields.length/\Takes ((m.fields.take i.1).map (·.name)) i.2 })
  (fun i=>[(1,.box 1 0),(3,.own 1001),(10,.part (.one (.row 10 m.fields.length (m.fields.flatMap Fld.dats)))),(11,.is (.int .i64 (m.fields.length:Int))),(12,.is (.int .i64 (i.1.1:Int)))])
  (fun _=>[(1,⟨204,bcs (md m)⟩)]) (fun i=>[(1001,⟨1000000,1,i.1.2.length,mds kS i.1.2,false⟩)]) (fun i=>m.fields.length-i.1.1)
  ⟨(0,[]),by dsimp only;omega,Takes.nil⟩
  (fun K=>B8 ⟨s_t,s_t,s_t,s_t,s_t,trivial⟩ ⟨s_b,trivial⟩ ⟨rfl,trivial⟩) ?_
 ·rintro⟨⟨k,ps⟩,hk,hps⟩
  dsimp only at hk hps ⊢
  try refine A0 ?_
  refine A1 (A5 rfl rfl rfl (AN rfl (kn rfl) (kn rfl) CP) .nil) ?_
  try refine A0 ?_
  refine AO rfl (fun h=>?_) (fun h=>?_)
  ·have hlt:k<m.fields.length:=by have:=of_decide_eq_true h;omega
   obtain⟨x,hx⟩:∃ x,m.fields[k]?=some x:=⟨_,List.getElem?_eq_getElem hlt⟩
   try refine A0 ?_
   refine A8 ?_
   refine AB (BO rfl (kn rfl) (kn rfl) (by omega) hx Fld.dats_len sle_201 esz_201 rfl) ?_
   refine AB (BQ rfl (kn rfl) agg_210 sz_210) ?_
   refine AS 5 [.is (.string ⟨#[]⟩),.is (.string ⟨#[]⟩),.is (.string ⟨#[]⟩),.is (.string ⟨#[]⟩),.is (.int .i64 0),.is (.int .i64 0),.is (.int .i64 0),.is (.int .i64 0),.is (.int .i64 0),.is (.int .i64 0)] rfl rfl rfl rfl zr_210 (fun w D M V=>⟨rfl,fun j x v h1 h2=>AR _ h1 h2 rfl⟩) rfl rfl rfl rfl ?_
   refine AI rfl rfl rfl (kn rfl) rfl (kn rfl) rfl rfl sz_210 ?_
   refine A6 ?_
   try refine A0 ?_
   refine A8 ?_
   refine AJ ?_
   refine AB (A3 rfl (kn rfl) off_210_0) ?_
   refine AB (A4 rfl (kn rfl) rfl rfl one_9) ?_
   refine WV (c:=x.name) (kf:=kS) rfl rfl rfl (kn rfl) rfl (kn rfl) (kn rfl) kfS Q30 ?_ rfl
   refine A6 ?_
   try refine A0 ?_
   refine A1 (A5 rfl rfl rfl (AN rfl (kn rfl) (kn rfl) (BF (by first | omega | (dsimp only;omega)))) (AA rfl rfl rfl rfl rfl .nil)) ?_
   try refine A0 ?_
   refine BB ⟨(k+1,GB x.name (bD true) ps),by dsimp only;omega,by dsimp only;rw[List.take_add_one,hx,List.map_append];exact hps.add x.name⟩ (by dsimp only;omega) (fun K=>B8 ⟨s_t,s_t,s_t,s_t,s_t,trivial⟩ ⟨s_b,trivial⟩ ⟨rfl,trivial⟩)
  obtain rfl:k=m.fields.length:=by have:=of_decide_eq_false h;omega
  rw[List.take_length]at hps
  try refine A0 ?_
  refine A1 (A5 rfl rfl rfl (A3 rfl (kn rfl) off_204_2) (A5 rfl rfl rfl (A4 rfl (kn rfl) rfl rfl one_54) (A5 rfl rfl rfl (CI rfl (kn rfl) sle_54) (AA rfl rfl rfl rfl rfl .nil)))) ?_
  try refine A0 ?_
  refine CB (ι:={ i:Nat×List (List UInt8)×List (List UInt8×Dat) // i.1<=m.oneofs.length/\Takes i.2.1 i.2.2/\LX (m.fields.map (·.name)) m.oneofs=LX i.2.1 (m.oneofs.drop i.1) })
   (fun i=>[(1,.box 1 0),(3,.own 1001),(21,.part (.one (.row 1 m.oneofs.length (m.oneofs.flatMap textDats)))),(22,.is (.int .i64 (m.oneofs.length:Int))),(23,.is (.int .i64 (i.1.1:Int)))])
   (fun _=>[(1,⟨204,bcs (md m)⟩)]) (fun i=>[(1001,⟨1000000,1,i.1.2.2.length,mds kS i.1.2.2,false⟩)]) (fun i=>m.oneofs.length-i.1.1)
   ⟨(0,m.fields.map (·.name),ps),by dsimp only;omega,hps,rfl⟩
   (fun K=>B8 ⟨s_t,s_t,s_t,s_t,s_t,trivial⟩ ⟨s_b,trivial⟩ ⟨rfl,trivial⟩) ?_
  clear hps ps h hk
  rintro⟨⟨k,t,ps⟩,hk,hps,hw⟩
  dsimp only at hk hps hw ⊢
  try refine A0 ?_
  refine A1 (A5 rfl rfl rfl (AN rfl (kn rfl) (kn rfl) CP) .nil) ?_
  try refine A0 ?_
  refine AO rfl (fun h=>?_) (fun h=>?_)
  ·have hlt:k<m.oneofs.length:=by have:=of_decide_eq_true h;omega
   obtain⟨x,hx⟩:∃ x,m.oneofs[k]?=some x:=⟨_,List.getElem?_eq_getElem hlt⟩
   rw[G8 hx,LX]at hw
   try refine A0 ?_
   refine A1 (A5 rfl rfl rfl (BO rfl (kn rfl) (kn rfl) (by omega) hx DT sle_54 esz_54 rfl) (A5 rfl rfl rfl (AD rfl (kn rfl) one_9) (AE rfl rfl rfl rfl rfl .nil))) ?_
   try refine A0 ?_
   refine A1 (AA rfl rfl rfl rfl rfl (AA rfl rfl rfl rfl rfl (A5 rfl rfl rfl (Q5l (c:=x) (kf:=kS) rfl (kn rfl) rfl (kn rfl) kfS Q30 zB) .nil))) ?_
   try refine A0 ?_
   rw[hps x]
   refine AO rfl (fun h3=>?_) (fun h3=>?_)
   ·rw[hw,if_pos h3]
    try refine A0 ?_
    refine A1 (AE rfl rfl rfl rfl rfl .nil) ?_
    try refine A0 ?_
    exact AM rfl rfl (.tmp (kn rfl) (.nil)) (Imp.refl _) rfl
   rw[if_neg (by rw[h3];decide)]at hw
   try refine A0 ?_
   refine A8 ?_
   refine AJ ?_
   refine AJ ?_
   refine WV (c:=x) (kf:=kS) rfl rfl rfl (kn rfl) rfl (kn rfl) (kn rfl) kfS Q30 ?_ rfl
   refine A6 ?_
   try refine A0 ?_
   refine A1 (A5 rfl rfl rfl (AN rfl (kn rfl) (kn rfl) (BF (by first | omega | (dsimp only;omega)))) (AA rfl rfl rfl rfl rfl .nil)) ?_
   try refine A0 ?_
   refine BB ⟨(k+1,t++[x],GB x (bD true) ps),by dsimp only;omega,hps.add x,hw⟩ (by dsimp only;omega) (fun K=>B8 ⟨s_t,s_t,s_t,s_t,s_t,trivial⟩ ⟨s_b,trivial⟩ ⟨rfl,trivial⟩)
  obtain rfl:k=m.oneofs.length:=by have:=of_decide_eq_false h;omega
  rw[hw,List.drop_length,LX]
  try refine A0 ?_
  refine A1 (AE rfl rfl rfl rfl rfl .nil) ?_
  try refine A0 ?_
  exact AM rfl rfl (.tmp (kn rfl) (.nil)) (Imp.refl _) rfl
def mgD(g:Mg):List Dat:=[.cell (.string (str g.name)),.row 9 g.fields.length (g.fields.flatMap fdD),.row 1 g.oneofs.length (g.oneofs.flatMap textDats)]
theorem N2(g:Mg):(mgD g).length=3:=rfl
def enD(e:En):List Dat:=[.cell (.string (str e.name)),.row 1 e.names.length (e.names.flatMap textDats),.row 1 e.numbers.length (e.numbers.flatMap GP)]
theorem Q54(e:En):(enD e).length=3:=rfl
abbrev Q7z(A:List Mg)(E:List En):List Dat:=[.row 3 A.length (A.flatMap mgD),.row 3 E.length (E.flatMap enD)]
abbrev TB(A:List Mg)(E:List En):Part:=.many (Q7z A E)
abbrev Q66(A:List Mg)(dE:Dat):Part:=.many [.row 3 A.length (A.flatMap mgD),dE]
def SW(A:List Mg)(t:Int)(p:Fd->Bool):Option Fd:=if 0<=t then((A[t.toNat]?).bind fun g=>g.fields.find? p)else none
abbrev fdA(r:Option Fd):IV:=.tup [.many (fdD (r.getD fd0)),bP r.isSome]
set_option maxHeartbeats 1000000 in
theorem XD(gls:List (Nat×List Value))(f:FuncId)(hfc:BU Tryz.prog f=true)(caps:List Dat)(A:List Mg)(dE:Dat)(h1:dE.isOne=true)(hA:A.length<=100000000000)(hF:∀ g∈A,g.fields.length<=100000000000)(t:Int)(p:Fd->Bool)(hc:∀ x,EF Tryz.prog gls f ([.one (.pref (fdD x))]++caps.map Part.one) (.part (bP (p x)))):
  EF Tryz.prog gls 34 [Q66 A dE,iP t,.one (.fn f caps)] (fdA (SW A t p)):=by
 refine AU 42 Tryz.func34 rfl rfl rfl fun w D=>?_
 try refine A0 ?_
 refine A8 ?_
 refine DZ 3 rfl rfl rfl rfl (kn rfl) (by show(_&&(Dat.isOne dE&&_))=true;rw[h1];rfl) rfl rfl rfl ?_
 refine AS 6 [.is (.string ⟨#[]⟩),.is (.int .i64 0),.is (.int .i64 0),.is (.int .i64 0),.is (.int .i64 0),.is (.bool false),.is (.int .i64 0),.is (.int .i64 0),.is (.int .i64 0)] rfl rfl rfl rfl zr_61 (fun w D M V=>⟨rfl,fun j x v h1 h2=>AR _ h1 h2 rfl⟩) rfl rfl rfl rfl ?_
 refine AG ?_
 refine A6 ?_
 try refine A0 ?_
 refine A1 (AA rfl rfl rfl rfl rfl (A5 rfl rfl rfl (AN rfl (kn rfl) (kn rfl) CP) (AA rfl rfl rfl rfl rfl (Walk.gd _ rfl rfl rfl (fun h=>C8 rfl (kn rfl)) (Walk.gd _ rfl rfl rfl (fun h=>A3 rfl (kn rfl) off_26_0) (Walk.gd _ rfl rfl rfl (fun h=>A4 rfl (A9 rfl h) rfl rfl one_23) (Walk.gd _ rfl rfl rfl (fun h=>CI rfl (A9 rfl h) sle_23) (Walk.gd _ rfl rfl rfl (fun h=>AN rfl (A9 rfl h) (A9 rfl h) IJ) (A5 rfl rfl rfl (EJ rfl (kn rfl) (fun hb=>A9 rfl hb)) .nil))))))))) ?_
 try refine A0 ?_
 refine AO rfl (fun h=>?_) (fun h=>?_)
 ·have e:SW A t p=none:=by
   unfold SW
   by_cases h0:0<=t
   ·rw[if_pos h0]
    have h3:¬ t<0:=by omega
    have h1:(A.length:Int)<=t:=by simpa[h3]using h
    rw[List.getElem?_eq_none (by omega)]
    rfl
   ·rw[if_neg h0]
  rw[e]
  try refine A0 ?_
  refine A8 ?_
  refine AB (B9 (ds:=[_,_,_,_,_,_,_,_,_]) [] rfl trivial rfl pl_61 zr_61 (fun w D=>.cons (.cell _) (.cons (.cell _) (.cons (.cell _) (.cons (.cell _) (.cons (.cell _) (.cons (.cell _) (.cons (.cell _) (.cons (.cell _) (.cons (.cell _) (.nil _ _)))))))))) rfl) ?_
  refine AI rfl rfl rfl (kn rfl) rfl (kn rfl) rfl rfl sz_61 ?_
  refine AG ?_
  refine A6 ?_
  try refine A0 ?_
  exact AM rfl rfl (.cell rfl rfl rfl agg_61 sz_61 rfl (.tmp (kn rfl) (.nil))) (Imp.refl _) rfl
 have h0:0<=t/\t<(A.length:Int):=by
  have h3:=h
  simp at h3
  omega
 obtain⟨n,rfl⟩:∃ n:Nat,t=(n:Int):=⟨t.toNat,by omega⟩
 obtain⟨g,hg⟩:∃ g,A[n]?=some g:=⟨_,List.getElem?_eq_getElem (by omega)⟩
 have e:SW A n p=g.fields.find? p:=by
  unfold SW
  rw[if_pos h0.1,show((n:Int)).toNat=n from rfl,hg]
  rfl
 rw[e]
 have hgl:=hF g (List.mem_of_getElem? hg)
 try refine A0 ?_
 refine A1 (A5 rfl rfl rfl (A3 rfl (kn rfl) off_26_0) (A5 rfl rfl rfl (A4 rfl (kn rfl) rfl rfl one_23) (AA rfl rfl rfl rfl rfl (A5 rfl rfl rfl (BO rfl (kn rfl) (kn rfl) (by omega) hg N2 sle_23 esz_23 rfl) (A5 rfl rfl rfl (AF rfl (kn rfl) off_71_1) (A5 rfl rfl rfl (AD rfl (kn rfl) one_69) (AE rfl rfl rfl rfl rfl .nil))))))) ?_
 try refine A0 ?_
 refine A1 (AA rfl rfl rfl rfl rfl (A5 rfl rfl rfl (CI rfl (kn rfl) sle_69) (AA rfl rfl rfl rfl rfl .nil))) ?_
 try refine A0 ?_
 refine CB (ι:={ k:Nat // k<=g.fields.length/\g.fields.find? p=(g.fields.drop k).find? p })
  (fun k=>[(2,.part (.one (.fn f caps))),(6,.box 6 0),(8,.part (.one (.row 9 g.fields.length (g.fields.flatMap fdD)))),(27,.is (.int .i64 (g.fields.length:Int))),(28,.is (.int .i64 (k.1:Int)))])
  (fun _=>[(6,⟨61,bcs (fdD fd0)⟩)]) (fun _=>[]) (fun k=>g.fields.length-k.1) ⟨0,by omega,rfl⟩
  (fun K=>B8 ⟨s_t,s_t,s_t,s_t,s_t,trivial⟩ ⟨s_b,trivial⟩ trivial) ?_
 rintro⟨k,hk,hw⟩
 dsimp only at hk hw ⊢
 try refine A0 ?_
 refine A1 (A5 rfl rfl rfl (AN rfl (kn rfl) (kn rfl) CP) .nil) ?_
 try refine A0 ?_
 refine AO rfl (fun h=>?_) (fun h=>?_)
 ·have hlt:k<g.fields.length:=by have:=of_decide_eq_true h;omega
  obtain⟨x,hx⟩:∃ x,g.fields[k]?=some x:=⟨_,List.getElem?_eq_getElem hlt⟩
  rw[G8 hx,List.find?_cons]at hw
  try refine A0 ?_
  refine A1 (AA rfl rfl rfl rfl rfl (AE rfl rfl rfl rfl rfl .nil)) ?_
  try refine A0 ?_
  refine A1 (AA rfl rfl rfl rfl rfl (AA rfl rfl rfl rfl rfl (AA rfl rfl rfl rfl rfl (A5 rfl rfl rfl (BO rfl (kn rfl) (kn rfl) (by omega) hx G5 sle_69 esz_69 rfl) (A5 rfl rfl rfl (MP (ps:=[.one (.pref (fdD x))]) rfl hfc (kn rfl) (hc x) ⟨EU (kn rfl) (Imp.ref_pref _),trivial⟩) .nil))))) ?_
  try refine A0 ?_
  refine AO rfl (fun h1=>?_) (fun h1=>?_)
  ·rw[hw,h1]
   try refine A0 ?_
   refine A8 ?_
   refine AJ ?_
   refine AJ ?_
   refine AB (BO rfl (kn rfl) (kn rfl) (by omega) hx G5 sle_69 esz_69 rfl) ?_
   refine AB (BQ rfl (kn rfl) agg_61 sz_61) ?_
   refine AI rfl rfl rfl (kn rfl) rfl (kn rfl) rfl rfl sz_61 ?_
   refine AG ?_
   refine A6 ?_
   try refine A0 ?_
   exact AM rfl rfl (.cell rfl rfl rfl agg_61 sz_61 rfl (.tmp (kn rfl) (.nil))) (Imp.refl _) rfl
  rw[h1]at hw
  try refine A0 ?_
  refine A1 (A5 rfl rfl rfl (AN rfl (kn rfl) (kn rfl) (BF (by first | omega | (dsimp only;omega)))) (AA rfl rfl rfl rfl rfl .nil)) ?_
  try refine A0 ?_
  refine BB ⟨k+1,by omega,hw⟩ (by dsimp only;omega) (fun K=>B8 ⟨s_t,s_t,s_t,s_t,s_t,trivial⟩ ⟨s_b,trivial⟩ trivial)
 obtain rfl:k=g.fields.length:=by have:=of_decide_eq_false h;omega
 rw[hw,List.drop_length]
 try refine A0 ?_
 refine A8 ?_
 refine AB (B9 (ds:=[_,_,_,_,_,_,_,_,_]) [] rfl trivial rfl pl_61 zr_61 (fun w D=>.cons (.cell _) (.cons (.cell _) (.cons (.cell _) (.cons (.cell _) (.cons (.cell _) (.cons (.cell _) (.cons (.cell _) (.cons (.cell _) (.cons (.cell _) (.nil _ _)))))))))) rfl) ?_
 refine AI rfl rfl rfl (kn rfl) rfl (kn rfl) rfl rfl sz_61 ?_
 refine AG ?_
 refine A6 ?_
 try refine A0 ?_
 exact AM rfl rfl (.cell rfl rfl rfl agg_61 sz_61 rfl (.tmp (kn rfl) (.nil))) (Imp.refl _) rfl
theorem Q3q(gls:List (Nat×List Value))(z:Int)(x:Fd):EF Tryz.prog gls 35 [.one (.pref (fdD x)),.one (.ptr 3 [.cell (.int .i64 z)])] (.part (bP (decide (x.number=z)))):=by
 refine AU 10 Tryz.func35 rfl rfl rfl fun w D=>?_
 try refine A0 ?_
 refine A1 (AE rfl rfl rfl rfl rfl .nil) ?_
 try refine A0 ?_
 refine FI mixed (by kernel_rfl) (AA rfl rfl rfl rfl rfl (A5 rfl rfl rfl (AW rfl (EU (kn rfl) (Imp.pref_ref _))) (A5 rfl rfl rfl (AF rfl (kn rfl) off_61_1) (A5 rfl rfl rfl (AD rfl (kn rfl) one_3) (A5 rfl rfl rfl (AD rfl (kq rfl) one_3) (A5 rfl rfl rfl (AN rfl (kn rfl) (kn rfl) D3) (AE rfl rfl rfl rfl rfl .nil))))))) ?_
 try refine A0 ?_
 exact AM rfl rfl (.tmp (kn rfl) (.nil)) (Imp.of_eq rfl) rfl
theorem Q2l(gls:List (Nat×List Value))(z:List UInt8)(x:Fd):EF Tryz.prog gls 36 [.one (.pref (fdD x)),.one (.ptr 9 [.cell (.string (str z))])] (.part (bP (decide (x.name=z)))):=by
 refine AU 10 Tryz.func36 rfl rfl rfl fun w D=>?_
 try refine A0 ?_
 refine A1 (AE rfl rfl rfl rfl rfl .nil) ?_
 try refine A0 ?_
 refine FI mixed (by kernel_rfl) (AA rfl rfl rfl rfl rfl (A5 rfl rfl rfl (AW rfl (EU (kn rfl) (Imp.pref_ref _))) (A5 rfl rfl rfl (AF rfl (kn rfl) off_61_0) (A5 rfl rfl rfl (AD rfl (kn rfl) one_9) (A5 rfl rfl rfl (AD rfl (kq rfl) one_9) (A5 rfl rfl rfl (AN rfl (kn rfl) (kn rfl) (KJ)) (AE rfl rfl rfl rfl rfl .nil))))))) ?_
 try refine A0 ?_
 exact AM rfl rfl (.tmp (kn rfl) (.nil)) (Imp.of_eq rfl) rfl
theorem OB(gls:List (Nat×List Value))(A:List Mg)(dE:Dat)(h1:dE.isOne=true)(hA:A.length<=100000000000)(hF:∀ g∈A,g.fields.length<=100000000000)(t:Int)(z:List UInt8):EF Tryz.prog gls 20 [Q66 A dE,iP t,sP z] (fdA (EV A t z)):=by
 refine AU 14 Tryz.func20 rfl rfl rfl fun w D=>?_
 try refine A0 ?_
 refine A8 ?_
 refine DZ 3 rfl rfl rfl rfl (kn rfl) (by show(_&&(Dat.isOne dE&&_))=true;rw[h1];rfl) rfl rfl rfl ?_
 refine OL 5 rfl rfl rfl rfl (kn rfl) rfl rfl rfl rfl ?_
 refine AS 6 [.is (.string ⟨#[]⟩),.is (.int .i64 0),.is (.int .i64 0),.is (.int .i64 0),.is (.int .i64 0),.is (.bool false),.is (.int .i64 0),.is (.int .i64 0),.is (.int .i64 0)] rfl rfl rfl rfl zr_61 (fun w D M V=>⟨rfl,fun j x v h1 h2=>AR _ h1 h2 rfl⟩) rfl rfl rfl rfl ?_
 refine AG ?_
 refine A6 ?_
 try refine A0 ?_
 refine FA 5 5 rfl rfl rfl ?_
 refine A8 ?_
 refine AB (AT (ds:=[_,_]) 2 rfl (kn rfl) rfl rfl agg_26 sz_26 rfl) ?_
 refine AJ ?_
 refine AB (L6 (ds:=[.ptr 9 [.cell (.string (str z))]]) rfl ⟨kn rfl,trivial⟩) ?_
 refine AB (AY rfl (by kernel_rfl) (XD gls 36 (by kernel_rfl) [.ptr 9 [.cell (.string (str z))]] A dE h1 hA hF t (fun x=>decide (x.name=z)) (fun x=>Q2l gls z x)) ⟨(kn rfl),⟨(kn rfl),⟨(kn rfl),trivial⟩⟩⟩) ?_
 refine B3 ?_
 refine B3 ?_
 refine AI rfl rfl rfl (kn rfl) rfl (kn rfl) rfl rfl sz_61 ?_
 refine AG ?_
 refine A6 ?_
 try refine A0 ?_
 exact AM rfl rfl (.cell rfl rfl rfl agg_61 sz_61 rfl (.tmp (kn rfl) (.nil))) (Imp.of_eq rfl) rfl
theorem Q3c(gls:List (Nat×List Value))(A:List Mg)(dE:Dat)(h1:dE.isOne=true)(hA:A.length<=100000000000)(hF:∀ g∈A,g.fields.length<=100000000000)(t:Int)(z:Int):EF Tryz.prog gls 18 [Q66 A dE,iP t,iP z] (fdA (I6 A t z)):=by
 refine AU 14 Tryz.func18 rfl rfl rfl fun w D=>?_
 try refine A0 ?_
 refine A8 ?_
 refine DZ 3 rfl rfl rfl rfl (kn rfl) (by show(_&&(Dat.isOne dE&&_))=true;rw[h1];rfl) rfl rfl rfl ?_
 refine OL 5 rfl rfl rfl rfl (kn rfl) rfl rfl rfl rfl ?_
 refine AS 6 [.is (.string ⟨#[]⟩),.is (.int .i64 0),.is (.int .i64 0),.is (.int .i64 0),.is (.int .i64 0),.is (.bool false),.is (.int .i64 0),.is (.int .i64 0),.is (.int .i64 0)] rfl rfl rfl rfl zr_61 (fun w D M V=>⟨rfl,fun j x v h1 h2=>AR _ h1 h2 rfl⟩) rfl rfl rfl rfl ?_
 refine AG ?_
 refine A6 ?_
 try refine A0 ?_
 refine FA 5 5 rfl rfl rfl ?_
 refine A8 ?_
 refine AB (AT (ds:=[_,_]) 2 rfl (kn rfl) rfl rfl agg_26 sz_26 rfl) ?_
 refine AJ ?_
 refine AB (L6 (ds:=[.ptr 3 [.cell (.int .i64 z)]]) rfl ⟨kn rfl,trivial⟩) ?_
 refine AB (AY rfl (by kernel_rfl) (XD gls 35 (by kernel_rfl) [.ptr 3 [.cell (.int .i64 z)]] A dE h1 hA hF t (fun x=>decide (x.number=z)) (fun x=>Q3q gls z x)) ⟨(kn rfl),⟨(kn rfl),⟨(kn rfl),trivial⟩⟩⟩) ?_
 refine B3 ?_
 refine B3 ?_
 refine AI rfl rfl rfl (kn rfl) rfl (kn rfl) rfl rfl sz_61 ?_
 refine AG ?_
 refine A6 ?_
 try refine A0 ?_
 exact AM rfl rfl (.cell rfl rfl rfl agg_61 sz_61 rfl (.tmp (kn rfl) (.nil))) (Imp.of_eq rfl) rfl
theorem Q5b(gls:List (Nat×List Value))(f:FuncId)(hfc:BU Tryz.prog f=true)(caps:List Dat)(l:List (Fd))(hl:l.length<=1000000000000)(p:Fd->Bool)(hc:∀ y∈l,EF Tryz.prog gls f ([.many (fdD y)]++caps.map Part.one) (.part (bP (p y)))):EF Tryz.prog gls 140 [.one (.row 9 l.length (l.flatMap fdD)),.one (.fn f caps)] (.part (iP (cix p l 0))):=by
 refine AU 19 Tryz.func140 rfl rfl rfl fun w D=>?_
 try refine A0 ?_
 refine A1 (AE rfl rfl rfl rfl rfl .nil) ?_
 try refine A0 ?_
 refine A1 (AA rfl rfl rfl rfl rfl (A5 rfl rfl rfl (CI rfl (kn rfl) sle_69) (AA rfl rfl rfl rfl rfl .nil))) ?_
 try refine A0 ?_
 refine CB (ι:={ k:Nat // k<=l.length/\cix p l 0=cix p (l.drop k) k })
  (fun k=>[(0,.part (.one (.row 9 l.length (l.flatMap fdD)))),(1,.part (.one (.fn f caps))),(7,.is (.int .i64 (l.length:Int))),(8,.is (.int .i64 (k.1:Int)))])
  (fun _=>[]) (fun _=>[]) (fun k=>l.length-k.1) ⟨0,by omega,rfl⟩
  (fun K=>B8 ⟨s_t,s_t,s_t,s_t,trivial⟩ trivial trivial) ?_
 rintro⟨k,hk,hw⟩
 dsimp only at hk hw ⊢
 try refine A0 ?_
 refine A1 (A5 rfl rfl rfl (AN rfl (kn rfl) (kn rfl) CP) .nil) ?_
 try refine A0 ?_
 refine AO rfl (fun h=>?_) (fun h=>?_)
 ·have hlt:k<l.length:=by have:=of_decide_eq_true h;omega
  obtain⟨x,hx⟩:∃ x,l[k]?=some x:=⟨_,List.getElem?_eq_getElem hlt⟩
  try refine A0 ?_
  refine A1 (AA rfl rfl rfl rfl rfl (AE rfl rfl rfl rfl rfl .nil)) ?_
  try refine A0 ?_
  refine A1 (AA rfl rfl rfl rfl rfl (AA rfl rfl rfl rfl rfl (AA rfl rfl rfl rfl rfl (A5 rfl rfl rfl (BO rfl (kn rfl) (kn rfl) (by omega) hx G5 sle_69 esz_69 rfl) (A5 rfl rfl rfl (BQ rfl (kn rfl) agg_61 sz_61) (A5 rfl rfl rfl (MP (ps:=[.many (fdD x)]) rfl hfc (kn rfl) (hc x (List.mem_of_getElem? hx)) ⟨kn rfl,trivial⟩) .nil)))))) ?_
  try refine A0 ?_
  refine AO rfl (fun h1=>?_) (fun h1=>?_)
  ·have e:=QU hx hw h1
   try refine A0 ?_
   refine A1 (AA rfl rfl rfl rfl rfl (AE rfl rfl rfl rfl rfl .nil)) ?_
   try refine A0 ?_
   exact AM rfl rfl (.tmp (kn rfl) (.nil)) (Imp.of_eq (by rw[e];rfl)) rfl
  try refine A0 ?_
  refine A1 (A5 rfl rfl rfl (AN rfl (kn rfl) (kn rfl) (BF (by first | omega | (dsimp only;omega)))) (AA rfl rfl rfl rfl rfl .nil)) ?_
  try refine A0 ?_
  refine BB ⟨k+1,by omega,KC hx hw h1⟩ (by dsimp only;omega) (fun K=>B8 ⟨s_t,s_t,s_t,s_t,trivial⟩ trivial trivial)
 have e:cix p l 0 = -1:=NL (by have:=of_decide_eq_false h;omega) hw
 try refine A0 ?_
 refine A1 (AE rfl rfl rfl rfl rfl .nil) ?_
 try refine A0 ?_
 exact AM rfl rfl (.tmp (kn rfl) (.nil)) (Imp.of_eq (by rw[e];rfl)) rfl
theorem Q50(gls:List (Nat×List Value))(x:Fld)(f:Fd):EF Tryz.prog gls 141 [.many (fdD f),.one (.ptr 210 x.dats)] (.part (bP (decide (f.number=x.number)))):=by
 refine AU 9 Tryz.func141 rfl rfl rfl fun w D=>?_
 try refine A0 ?_
 refine A8 ?_
 refine DZ 2 rfl rfl rfl rfl (kn rfl) rfl rfl rfl rfl ?_
 refine AG ?_
 refine A6 ?_
 try refine A0 ?_
 refine A1 (A5 rfl rfl rfl (A3 rfl (kn rfl) off_61_1) (A5 rfl rfl rfl (A4 rfl (kn rfl) rfl rfl one_3) (A5 rfl rfl rfl (AF rfl (kq rfl) off_210_5) (A5 rfl rfl rfl (AD rfl (kn rfl) one_3) (A5 rfl rfl rfl (AN rfl (kn rfl) (kn rfl) D3) (AE rfl rfl rfl rfl rfl .nil)))))) ?_
 try refine A0 ?_
 exact AM rfl rfl (.tmp (kn rfl) (.nil)) (Imp.of_eq rfl) rfl
section
section
variable{P:Program}{cx:Cx}{T:TL}{B:BL}{R:RL}
theorem S1{K:Act->World->Prop}(s r:Nat){x:Rw}(hr0:lk r R=some x)(hf:x.fz=false)(h:∀ v0:Value,v0.oneCell'=true->E cx ((s,LQ r v0)::T) B R K):E cx T B R K:=fun M V a w hr=>h (V r) (by
 have h1:=hr.heap.row r x hr0
 rw[hf]at h1
 obtain⟨xs,h2,_⟩:Gx _ _ _ _ _ _ _ _:=h1
 rcases h2 with⟨_,_,⟨h3,_⟩ | ⟨g,cap,cur,h3,_⟩⟩ | ⟨_,g,es,c,h3,_⟩ | ⟨_,_,⟨h3,_⟩ | ⟨g,cap,cur,h3,_⟩⟩<;>rw[h3]<;>rfl) M V a w ⟨hr.size,hr.defers,hr.heap,fun q z hz=>by
 rcases AK hz with⟨rfl,rfl⟩ | ⟨_,hz⟩
 ·exact rfl
 ·exact hr.tmp q z hz⟩
theorem NQ{K:Act->World->Prop}(b j:Nat){s r:Nat}{v0:Value}{bx:Bx}{is:List IV}(hb:lk b B=some bx)(hj:bx.cs[j]?=some (.own r))(hp:lk s T=some (LQ r v0))(his:bx.cs.set j (.is v0)=is)(h:E cx T ((b,⟨bx.ty,is⟩)::B) R K):E cx T B R K:=fun M V a w hr=>by
 obtain⟨_,cs,a2,a3⟩:=hr.heap.box b bx hb
 have hv:V r=v0:=hr.tmp s _ hp
 refine h M V a w (hr.set hb a2 (fun _ _=>rfl) rfl rfl rfl rfl ⟨by rw[<- his];simp[a3.1],fun k z u hz hu=>?_⟩)
 rw[<- his,List.getElem?_set]at hz
 split at hz
 ·rename_i hij
  subst hij
  split at hz
  ·obtain rfl:=Option.some.inj hz
   have h1:=a3.2 j _ u hj hu
   have h2:u=V r:=h1.1
   refine⟨?_,h1.2⟩
   rw[h2,hv]
   exact .cell _
  ·cases hz
 ·exact a3.2 k z u hz hu
theorem N4{K:Act->World->Prop}(b j:Nat){s r:Nat}{v0:Value}{bx:Bx}{is:List IV}(hb:lk b B=some bx)(hj:bx.cs[j]?=some (.is v0))(hp:lk s T=some (LQ r v0))(his:bx.cs.set j (.own r)=is)(h:E cx T ((b,⟨bx.ty,is⟩)::B) R K):E cx T B R K:=fun M V a w hr=>by
 obtain⟨_,cs,a2,a3⟩:=hr.heap.box b bx hb
 have hv:V r=v0:=hr.tmp s _ hp
 refine h M V a w (hr.set hb a2 (fun _ _=>rfl) rfl rfl rfl rfl ⟨by rw[<- his];simp[a3.1],fun k z u hz hu=>?_⟩)
 rw[<- his,List.getElem?_set]at hz
 split at hz
 ·rename_i hij
  subst hij
  split at hz
  ·obtain rfl:=Option.some.inj hz
   have h1:=a3.2 j _ u hj hu
   refine⟨?_,h1.2⟩
   show u=V r
   rw[hv]
   exact Lies.cell_eq h1.1
  ·cases hz
 ·exact a3.2 k z u hz hu
def KnV(T:TL)(R:RL):List Operand->List Part->Prop
 | [],[]=>True
 | x::xs,p::ps=>(Kn T x (.part p) \/ ∃ r z,Kn T x (.own r)/\lk r R=some z/\p=.one (datOf z))/\KnV T R xs ps
 | _,_=>False
theorem KnV.shows:∀ {xs:List Operand} {ps:List Part},KnV T R xs ps -> ∀ (w:World) (D:Nat->Prop) (M:Nat->Nat) (V:Nat->Value) (a:Act),(∀ t z,.tmp t∈xs->lk t T=some z->VR w D M V z (a.tmps.getD t undef))->(∀ r x,lk r R=some x->Lies w D (datOf x) (V r))->PsFit w D ps (xs.map a.eval)
 | [],[],_,_,_,_,_,_,_,_=>trivial
 | [],_::_,h,_,_,_,_,_,_,_=>h.elim
 | _::_,[],h,_,_,_,_,_,_,_=>h.elim
 | x::xs,p::ps,h,w,D,M,V,a,h1,h2=>by
  refine⟨?_,KnV.shows h.2 w D M V a (fun t z hm=>h1 t z (List.mem_cons_of_mem _ hm)) h2⟩
  rcases h.1 with hk | ⟨r,z,hk,hz,rfl⟩
  ·exact hk w D M V a fun t z e hz=>h1 t z (by rw[e];exact List.mem_cons_self) hz
  ·have h3:a.eval x=V r:=hk w D M V a fun t z e hz=>h1 t z (by rw[e];exact List.mem_cons_self) hz
   show Lies w D (datOf z) (a.eval x)
   rw[h3]
   exact h2 r z hz
theorem Far.cells(vs:List Value):Far (.tup (vs.map fun v=>.one (.cell v))) (.tup (vs.map fun v=>.one (.cell v))):=fun w D M V w' D' M' V' v h=>by
 obtain⟨us,h1,h2⟩:=h
 obtain rfl:=KB h2
 exact⟨_,h1,MC _ _ _⟩
theorem Far.free{y:IV}(h:y.free=true):Far y y:=fun _ _ _ _ _ _ _ _ _ hv=>Q1 h hv
theorem EG.p{gls:List (Nat×List Value)}{f:FuncId}{xs:List IV}{Y:IV->BL->RL->Prop}{Pre:(Nat->Nat)->Prop}(h:EG P gls f xs B R Y):EGp P gls f xs B R [] Pre (fun y B1 R1 p1=>Y y B1 R1/\p1=[]):=fun w D M V vs n hh hv _ _=>
 (h w D M V vs n hh hv).mono fun e w' ⟨v,y,B1,R1,M1,V1,a1,a2,a3,a4⟩=>⟨v,y,B1,R1,[],M1,V1,a1,⟨a2,rfl⟩,a3,a4,trivial⟩
end
end
abbrev FQ(f:Fil):Part:=.many f.dats
abbrev GN:List UInt8:=[115,121,110,116,97,120]
abbrev PV:List UInt8:=[112,114,111,116,111,51]
theorem SY(l:List Tk)(s t:List UInt8)(p:Nat):EK l [s,t] p=(match BK l (kindT s) s p with | .error e=>.error e | .ok q=>BK l (kindT t) t q):=by
 rw[EK]
 cases BK l (kindT s) s p with
 | error e=>rfl
 | ok q=>exact R9 l t q
theorem Q2h{l:List Tk}{e:Nat×Nat}(h:EK l [GN,[61]] 0=.error e):FT l=.error e:=by
 rw[SY]at h
 change (match BK l 1 GN 0 with | .error e=>(.error e:AZ Nat) | .ok q=>BK l 4 [61] q)=_ at h
 unfold FT
 cases h1:BK l 1 GN 0 with
 | error e'=>
  rw[h1]at h
  cases h
  rfl
 | ok q=>
  rw[h1]at h
  dsimp only at h
  simp only[h1,h]
abbrev PK(l:List Tk)(q:Nat):AZ Fil:=
   match I1 l q with
   | .error e=>.error e
   | .ok (t,r)=>
    if t=[112,114,111,116,111,51]then
     match BK l 4 [59] r with
     | .error e=>.error e
     | .ok s=>
      match DI l s with
      | .error e=>.error e
      | .ok (pk,u)=>DW l (l.length+1) ⟨pk,[],[]⟩ u
    else D1 q
theorem Q37{l:List Tk}{q:Nat}(h:EK l [GN,[61]] 0=.ok q):FT l=PK l q/\q<=l.length:=by
 rw[SY]at h
 change (match BK l 1 GN 0 with | .error e=>(.error e:AZ Nat) | .ok q=>BK l 4 [61] q)=_ at h
 unfold FT
 cases h1:BK l 1 GN 0 with
 | error e'=>
  rw[h1]at h
  cases h
 | ok q'=>
  rw[h1]at h
  dsimp only at h
  have:=BA h
  exact⟨by simp only[h1,h];rfl,by omega⟩
theorem T4{f:Fil}{c d1 d2:Dat}{p:Part}(h0:c=.cell (.string (str f.package)))(h1:DImp d1 (.row 9 f.msgs.length (f.msgs.flatMap Msg.dats)))(h2:DImp d2 (.row 4 f.enums.length (f.enums.flatMap Enm.dats))):Imp (.tup [.many [c,d1,d2],p]) (.tup [FQ f,p]):=Imp.tup ⟨⟨DImp.of_eq h0,h1,h2,trivial⟩,PImp.refl _,trivial⟩
def Q1S(l:List Tk)(e:Nat×Nat):Nat×Nat×Nat:=if e.1<l.length then(e.2,(tkAt l e.1).2.1,(tkAt l e.1).2.2)else(e.2,0,0)
def TW:Fil:=⟨[],[],[]⟩
def K8(l:List Tk):Fil×Nat×Nat×Nat:=
 match FT l with
 | .ok f=>(f,0,0,0)
 | .error e=>(TW,Q1S l e)
theorem YH{p:Prop}(h:p):Q08 p=true:=OI.2 h
def Enm.fine(e:Enm):Prop:=e.vals.length<=100000000000
mutual
def Msg.fine:Msg->Prop
 | .mk _ f o m e r s _ _=>f.length<=100000000000/\o.length<=100000000000/\m.length<=100000000000/\e.length<=100000000000/\r.length<=100000000000/\s.length<=100000000000/\(∀ x∈e,x.fine)/\Msg.fines m
def Msg.fines:List Msg->Prop
 | []=>True
 | k::ks=>k.fine/\Msg.fines ks
end
theorem Msg.fines_iff:∀ ms:List Msg,Msg.fines ms ↔ ∀ k∈ms,k.fine
 | []=>by simp[Msg.fines]
 | k::ks=>by rw[Msg.fines,Msg.fines_iff ks];simp
theorem Msg.fine_iff(m:Msg):m.fine↔(m.fields.length<=100000000000/\m.oneofs.length<=100000000000/\m.msgs.length<=100000000000/\m.enums.length<=100000000000/\m.reserved.length<=100000000000/\m.names.length<=100000000000/\(∀ x∈m.enums,x.fine) /\ ∀ k∈m.msgs,k.fine):=by
 obtain⟨nm,fs,os,ms,es,rs,ns,ln,cl⟩:=m
 rw[Msg.fine,Msg.fines_iff]
 rfl
def Fil.fine(f:Fil):Prop:=f.msgs.length<=100000000000/\f.enums.length<=100000000000/\(∀ x∈f.enums,x.fine) /\ ∀ k∈f.msgs,k.fine
end Go.Proofs.YtgcphgdkddihcaaGreatDoor
