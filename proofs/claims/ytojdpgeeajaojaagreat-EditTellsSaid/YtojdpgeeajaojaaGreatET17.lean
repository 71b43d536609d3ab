/- Part 17. Conditions: as each theorem says. -/
import Derived.Test.YtojdpgeeajaojaaGreatET16
import Derived.Test.YtojdpgeeajaojaaGreatProg
set_option maxRecDepth 100000
namespace Go.Proofs.YtojdpgeeajaojaaGreat
open Go.RowKit
def REq(a:Ed):Prop:=∀ b:Ed,b.Sm->EF Tryz.prog [] 14 [.many (ed a),.many (ed b)] (.part (tP (eeq a b)))
set_option maxHeartbeats 4000000 in
theorem T1(a:Ed)(ha:a.Sm)(ih:∀ x∈a.kids,REq x):REq a:=by
 intro b hb
 have la:=ha.lens
 have lb:=hb.lens
 obtain⟨_,a1,a2,_,_,_,a3,a4⟩:=ha.ok.all
 obtain⟨_,b1,b2,_,_,_,b3,b4⟩:=hb.ok.all
 have q:=P6 a b
 refine AG 184 Tryz.func14 rfl rfl rfl fun w D=>?_
 try refine A3 ?_
 refine AI ?_
 refine B9 2 rfl rfl rfl rfl (kn rfl) rfl rfl rfl rfl ?_
 refine B9 3 rfl rfl rfl rfl (kn rfl) rfl rfl rfl rfl ?_
 refine BX ?_
 refine AM ?_
 try refine A3 ?_
 refine A2 (A4 rfl rfl rfl (A1 rfl (kn rfl) off_44_0) (A4 rfl rfl rfl (A5 rfl (kn rfl) rfl rfl one_3) (A4 rfl rfl rfl (A1 rfl (kn rfl) off_44_0) (A4 rfl rfl rfl (A5 rfl (kn rfl) rfl rfl one_3) (A4 rfl rfl rfl (A6 rfl (kn rfl) (kn rfl) BI) (A9 rfl rfl rfl rfl rfl (Walk.gd _ rfl rfl rfl (fun h=>A1 rfl (kn rfl) off_44_4) (Walk.gd _ rfl rfl rfl (fun h=>A5 rfl (A0 rfl h) rfl rfl one_4) (Walk.gd _ rfl rfl rfl (fun h=>A1 rfl (kn rfl) off_44_4) (Walk.gd _ rfl rfl rfl (fun h=>A5 rfl (A0 rfl h) rfl rfl one_4) (Walk.gd _ rfl rfl rfl (fun h=>A6 rfl (A0 rfl h) (A0 rfl h) (S8 bool_4)) (A4 rfl rfl rfl (BO rfl (kn rfl) (fun hb=>A0 rfl hb)) (A9 rfl rfl rfl rfl rfl (Walk.gd _ rfl rfl rfl (fun h=>A1 rfl (kn rfl) off_44_5) (Walk.gd _ rfl rfl rfl (fun h=>A5 rfl (A0 rfl h) rfl rfl one_9) (Walk.gd _ rfl rfl rfl (fun h=>A1 rfl (kn rfl) off_44_5) (Walk.gd _ rfl rfl rfl (fun h=>A5 rfl (A0 rfl h) rfl rfl one_9) (Walk.gd _ rfl rfl rfl (fun h=>A6 rfl (A0 rfl h) (A0 rfl h) (MD)) (A4 rfl rfl rfl (BO rfl (kn rfl) (fun hb=>A0 rfl hb)) (A9 rfl rfl rfl rfl rfl (Walk.gd _ rfl rfl rfl (fun h=>A1 rfl (kn rfl) off_44_6) (Walk.gd _ rfl rfl rfl (fun h=>A5 rfl (A0 rfl h) rfl rfl one_9) (Walk.gd _ rfl rfl rfl (fun h=>A1 rfl (kn rfl) off_44_6) (Walk.gd _ rfl rfl rfl (fun h=>A5 rfl (A0 rfl h) rfl rfl one_9) (Walk.gd _ rfl rfl rfl (fun h=>A6 rfl (A0 rfl h) (A0 rfl h) (MD)) (A4 rfl rfl rfl (BO rfl (kn rfl) (fun hb=>A0 rfl hb)) (A9 rfl rfl rfl rfl rfl (Walk.gd _ rfl rfl rfl (fun h=>A1 rfl (kn rfl) off_44_1) (Walk.gd _ rfl rfl rfl (fun h=>A7 (ds:=[_,_,_,_,_,_,_]) 7 rfl (A0 rfl h) rfl rfl agg_39 sz_39 rfl) (Walk.gd _ rfl rfl rfl (fun h=>A1 rfl (kn rfl) off_44_1) (Walk.gd _ rfl rfl rfl (fun h=>A7 (ds:=[_,_,_,_,_,_,_]) 7 rfl (A0 rfl h) rfl rfl agg_39 sz_39 rfl) (Walk.gd _ rfl rfl rfl (fun h=>AD rfl (by kernel_rfl) (HC a.old b.old a1.fine b1.fine) ⟨(A0 rfl h),⟨(A0 rfl h),trivial⟩⟩) (Walk.gd _ rfl rfl rfl (fun h=>BZ rfl (A0 rfl h)) (A4 rfl rfl rfl (BO rfl (kn rfl) (fun hb=>A0 rfl hb)) (A9 rfl rfl rfl rfl rfl (Walk.gd _ rfl rfl rfl (fun h=>A1 rfl (kn rfl) off_44_2) (Walk.gd _ rfl rfl rfl (fun h=>A7 (ds:=[_,_,_,_,_,_,_]) 7 rfl (A0 rfl h) rfl rfl agg_39 sz_39 rfl) (Walk.gd _ rfl rfl rfl (fun h=>A1 rfl (kn rfl) off_44_2) (Walk.gd _ rfl rfl rfl (fun h=>A7 (ds:=[_,_,_,_,_,_,_]) 7 rfl (A0 rfl h) rfl rfl agg_39 sz_39 rfl) (Walk.gd _ rfl rfl rfl (fun h=>AD rfl (by kernel_rfl) (HC a.new b.new a2.fine b2.fine) ⟨(A0 rfl h),⟨(A0 rfl h),trivial⟩⟩) (Walk.gd _ rfl rfl rfl (fun h=>BZ rfl (A0 rfl h)) (A4 rfl rfl rfl (BO rfl (kn rfl) (fun hb=>A0 rfl hb)) (A9 rfl rfl rfl rfl rfl (Walk.gd _ rfl rfl rfl (fun h=>A1 rfl (kn rfl) off_44_3) (Walk.gd _ rfl rfl rfl (fun h=>A5 rfl (A0 rfl h) rfl rfl one_40) (Walk.gd _ rfl rfl rfl (fun h=>AR rfl (A0 rfl h) sle_40) (Walk.gd _ rfl rfl rfl (fun h=>A1 rfl (kn rfl) off_44_3) (Walk.gd _ rfl rfl rfl (fun h=>A5 rfl (A0 rfl h) rfl rfl one_40) (Walk.gd _ rfl rfl rfl (fun h=>AR rfl (A0 rfl h) sle_40) (Walk.gd _ rfl rfl rfl (fun h=>A6 rfl (A0 rfl h) (A0 rfl h) BI) (A4 rfl rfl rfl (BO rfl (kn rfl) (fun hb=>A0 rfl hb)) (A9 rfl rfl rfl rfl rfl (Walk.gd _ rfl rfl rfl (fun h=>A1 rfl (kn rfl) off_44_7) (Walk.gd _ rfl rfl rfl (fun h=>A5 rfl (A0 rfl h) rfl rfl one_41) (Walk.gd _ rfl rfl rfl (fun h=>AR rfl (A0 rfl h) sle_41) (Walk.gd _ rfl rfl rfl (fun h=>A1 rfl (kn rfl) off_44_7) (Walk.gd _ rfl rfl rfl (fun h=>A5 rfl (A0 rfl h) rfl rfl one_41) (Walk.gd _ rfl rfl rfl (fun h=>AR rfl (A0 rfl h) sle_41) (Walk.gd _ rfl rfl rfl (fun h=>A6 rfl (A0 rfl h) (A0 rfl h) BI) (A4 rfl rfl rfl (BO rfl (kn rfl) (fun hb=>A0 rfl hb)) (A9 rfl rfl rfl rfl rfl (Walk.gd _ rfl rfl rfl (fun h=>A1 rfl (kn rfl) off_44_8) (Walk.gd _ rfl rfl rfl (fun h=>A5 rfl (A0 rfl h) rfl rfl one_42) (Walk.gd _ rfl rfl rfl (fun h=>AR rfl (A0 rfl h) sle_42) (Walk.gd _ rfl rfl rfl (fun h=>A1 rfl (kn rfl) off_44_8) (Walk.gd _ rfl rfl rfl (fun h=>A5 rfl (A0 rfl h) rfl rfl one_42) (Walk.gd _ rfl rfl rfl (fun h=>AR rfl (A0 rfl h) sle_42) (Walk.gd _ rfl rfl rfl (fun h=>A6 rfl (A0 rfl h) (A0 rfl h) BI) (A4 rfl rfl rfl (BO rfl (kn rfl) (fun hb=>A0 rfl hb)) .nil))))))))))))))))))))))))))))))))))))))))))))))))))))))))))))))))))))) ?_
 try refine A3 ?_
 refine AB rfl (fun h=>?_) (fun h=>?_)
 ·have e:eeq a b=false:=by
   rw[q]
   simp only[Bool.or_eq_true,Bool.not_eq_true',decide_eq_false_iff_not,bne_iff_ne]at h
   rcases h with(((((((h | h) | h) | h) | h) | h) | h) | h) | h
   ·simp[DH,h]
   ·simp[DH,h]
   ·simp[DH,h]
   ·simp[DH,h]
   ·simp[DH,CP,h]
   ·simp[DH,CP,h]
   ·rw[E9 (l:=a.fields) (m:=b.fields) (by omega)];simp
   ·rw[E9 (l:=a.steps) (m:=b.steps) (by omega)];simp
   ·rw[E9 (l:=a.keys) (m:=b.keys) (by omega)];simp
  try refine A3 ?_
  refine A2 (AC rfl rfl rfl rfl rfl .nil) ?_
  try refine A3 ?_
  exact A8 rfl rfl (.tmp (kn rfl) (.nil)) (Imp.of_eq (by rw[e];rfl)) rfl
 simp only[Bool.or_eq_false_iff,Bool.not_eq_false',decide_eq_true_eq,bne_eq_false_iff_eq]at h
 obtain⟨⟨⟨⟨⟨⟨⟨⟨g1,g2⟩,g3⟩,g4⟩,g5⟩,g6⟩,g7⟩,g8⟩,g9⟩:=h
 have g7:a.fields.length=b.fields.length:=by omega
 have g8:a.steps.length=b.steps.length:=by omega
 have g9:a.keys.length=b.keys.length:=by omega
 rw[show DH a b=true by simp[DH,CP,g1,g2,g3,g4,g5,g6],Bool.true_and]at q
 try refine A3 ?_
 refine A2 (A4 rfl rfl rfl (A1 rfl (kn rfl) off_44_3) (A4 rfl rfl rfl (A5 rfl (kn rfl) rfl rfl one_40) (A4 rfl rfl rfl (AR rfl (kn rfl) sle_40) (A9 rfl rfl rfl rfl rfl .nil)))) ?_
 try refine A3 ?_
 refine AX (ι:={ k:Nat // k<=(a.fields).length/\C6 H7 (a.fields) (b.fields)=C6 H7 ((a.fields).drop k) ((b.fields).drop k) })
  (fun k=>[(2,.box 2 0),(3,.box 3 0),(82,.part (.one (.row 22 (a.fields).length ((a.fields).flatMap CT)))),(83,.is (.int .i64 ((a.fields).length:Int))),(84,.is (.int .i64 (k.1:Int)))])
  (fun _=>[(2,⟨44,bcs (ed a)⟩),(3,⟨44,bcs (ed b)⟩)]) (fun _=>[]) (fun k=>(a.fields).length-k.1) ⟨0,by omega,rfl⟩
  (fun K=>AL ⟨s_t,s_t,s_t,s_t,s_t,trivial⟩ ⟨s_b,s_b,trivial⟩ trivial) ?_
 rintro⟨k,hk,hw⟩
 dsimp only at hk hw ⊢
 try refine A3 ?_
 refine A2 (A4 rfl rfl rfl (A6 rfl (kn rfl) (kn rfl) AY) .nil) ?_
 try refine A3 ?_
 refine AB rfl (fun h=>?_) (fun h=>?_)
 ·have hlt:k<(a.fields).length:=by have:=of_decide_eq_true h;omega
  obtain⟨x,hx⟩:∃ x,(a.fields)[k]?=some x:=⟨_,List.getElem?_eq_getElem hlt⟩
  obtain⟨y,hy⟩:∃ y,(b.fields)[k]?=some y:=⟨_,List.getElem?_eq_getElem (by omega)⟩
  have mx:=List.mem_of_getElem? hx
  have my:=List.mem_of_getElem? hy
  have hs:=E3 hx hy hw
  try refine A3 ?_
  refine AI ?_
  refine D9 ?_
  refine AQ (AJ rfl (kn rfl) (kn rfl) (by omega) hx BT sle_40 esz_40 (C0 x)) ?_
  refine AQ (AH rfl (kn rfl) agg_59 sz_59) ?_
  refine AW 6 [.is (.int .i64 0),.is (.int .i64 0),.is (.int .i64 0),.is (.int .u64 0),.is (.string ⟨#[]⟩),.is (.slice none 0 0),.is (.string ⟨#[]⟩),.is (.slice none 0 0),.is (.slice none 0 0),.is (.int .i64 0),.is (.int .u64 0),.is (.string ⟨#[]⟩),.is (.slice none 0 0),.is (.string ⟨#[]⟩),.is (.slice none 0 0),.is (.slice none 0 0),.is (.slice none 0 0),.is (.bool false),.is (.string ⟨#[]⟩),.is (.string ⟨#[]⟩),.is (.slice none 0 0),.is (.slice none 0 0)] rfl rfl rfl rfl zr_59 (fun w D M V=>⟨rfl,fun j x v h1 h2=>AV _ h1 h2 rfl⟩) rfl rfl rfl rfl ?_
  refine BX ?_
  refine AT rfl rfl rfl (kn rfl) rfl (kn rfl) rfl rfl sz_59 ?_
  refine AM ?_
  try refine A3 ?_
  refine BD BF (by kernel_rfl) (A4 rfl rfl rfl (A1 rfl (kn rfl) off_59_0) (A4 rfl rfl rfl (A5 rfl (kn rfl) rfl rfl one_3) (A4 rfl rfl rfl (A1 rfl (kn rfl) off_44_3) (A4 rfl rfl rfl (A5 rfl (kn rfl) rfl rfl one_40) (A9 rfl rfl rfl rfl rfl (A4 rfl rfl rfl (AJ rfl (kn rfl) (kn rfl) (by omega) hy BT sle_40 esz_40 (C0 y)) (A4 rfl rfl rfl (AA rfl (kn rfl) off_59_0) (A4 rfl rfl rfl (AF rfl (kn rfl) one_3) (A4 rfl rfl rfl (A6 rfl (kn rfl) (kn rfl) BI) (A9 rfl rfl rfl rfl rfl (Walk.gd _ rfl rfl rfl (fun h=>A1 rfl (kn rfl) off_59_1) (Walk.gd _ rfl rfl rfl (fun h=>A7 (ds:=[_,_,_,_,_,_,_,_,_,_,_,_,_,_,_,_,_,_,_,_,_]) 21 rfl (A0 rfl h) rfl rfl agg_44 sz_44 rfl) (Walk.gd _ rfl rfl rfl (fun h=>A1 rfl (kn rfl) off_44_3) (Walk.gd _ rfl rfl rfl (fun h=>A5 rfl (A0 rfl h) rfl rfl one_40) (Walk.gd _ rfl rfl rfl (fun h=>AN rfl (kn rfl)) (Walk.gd _ rfl rfl rfl (fun h=>AJ rfl (A0 rfl h) (A0 rfl h) (by omega) hy BT sle_40 esz_40 (C0 y)) (Walk.gd _ rfl rfl rfl (fun h=>AA rfl (A0 rfl h) off_59_1) (Walk.gd _ rfl rfl rfl (fun h=>AH rfl (A0 rfl h) agg_44 sz_44) (Walk.gd _ rfl rfl rfl (fun h=>AD rfl (by kernel_rfl) (ih x.2 (Ed.kid_f mx) y.2 (hb.kid (Ed.kid_f my))) ⟨(A0 rfl h),⟨(A0 rfl h),trivial⟩⟩) (Walk.gd _ rfl rfl rfl (fun h=>BZ rfl (A0 rfl h)) (A4 rfl rfl rfl (BO rfl (kn rfl) (fun hb=>A0 rfl hb)) .nil))))))))))))))))))))) ?_
  try refine A3 ?_
  refine AB rfl (fun h1=>?_) (fun h1=>?_)
  ·have e:eeq a b=false:=by
    rw[q,hs]
    simp only[Bool.or_eq_true,Bool.not_eq_true',decide_eq_false_iff_not]at h1
    rcases h1 with h1 | h1<;>simp[h1]
   try refine A3 ?_
   refine A2 (AC rfl rfl rfl rfl rfl .nil) ?_
   try refine A3 ?_
   exact A8 rfl rfl (.tmp (kn rfl) (.nil)) (Imp.of_eq (by rw[e];rfl)) rfl
  simp only[Bool.or_eq_false_iff,Bool.not_eq_false',decide_eq_true_eq]at h1
  rw[show H7 x y=true by simp[h1.1,h1.2],Bool.true_and]at hs
  try refine A3 ?_
  refine A2 (A4 rfl rfl rfl (A6 rfl (kn rfl) (kn rfl) (AK (by first | omega | (dsimp only;omega)))) (A9 rfl rfl rfl rfl rfl .nil)) ?_
  try refine A3 ?_
  refine AS ⟨k+1,by omega,hs⟩ (by dsimp only;omega) (fun K=>AL ⟨s_t,s_t,s_t,s_t,s_t,trivial⟩ ⟨s_b,s_b,trivial⟩ trivial)
 rw[F0 g7 (by have:=of_decide_eq_false h;omega) hw,Bool.true_and]at q
 try refine A3 ?_
 refine A2 (A4 rfl rfl rfl (A1 rfl (kn rfl) off_44_7) (A4 rfl rfl rfl (A5 rfl (kn rfl) rfl rfl one_41) (A4 rfl rfl rfl (AR rfl (kn rfl) sle_41) (A9 rfl rfl rfl rfl rfl .nil)))) ?_
 try refine A3 ?_
 refine AX (ι:={ k:Nat // k<=(a.steps).length/\C6 KG (a.steps) (b.steps)=C6 KG ((a.steps).drop k) ((b.steps).drop k) })
  (fun k=>[(2,.box 2 0),(3,.box 3 0),(112,.part (.one (.row 30 (a.steps).length ((a.steps).flatMap CA)))),(113,.is (.int .i64 ((a.steps).length:Int))),(114,.is (.int .i64 (k.1:Int)))])
  (fun _=>[(2,⟨44,bcs (ed a)⟩),(3,⟨44,bcs (ed b)⟩)]) (fun _=>[]) (fun k=>(a.steps).length-k.1) ⟨0,by omega,rfl⟩
  (fun K=>AL ⟨s_t,s_t,s_t,s_t,s_t,trivial⟩ ⟨s_b,s_b,trivial⟩ trivial) ?_
 rintro⟨k,hk,hw⟩
 dsimp only at hk hw ⊢
 try refine A3 ?_
 refine A2 (A4 rfl rfl rfl (A6 rfl (kn rfl) (kn rfl) AY) .nil) ?_
 try refine A3 ?_
 refine AB rfl (fun h=>?_) (fun h=>?_)
 ·have hlt:k<(a.steps).length:=by have:=of_decide_eq_true h;omega
  obtain⟨x,hx⟩:∃ x,(a.steps)[k]?=some x:=⟨_,List.getElem?_eq_getElem hlt⟩
  obtain⟨y,hy⟩:∃ y,(b.steps)[k]?=some y:=⟨_,List.getElem?_eq_getElem (by omega)⟩
  have mx:=List.mem_of_getElem? hx
  have my:=List.mem_of_getElem? hy
  have hs:=E3 hx hy hw
  try refine A3 ?_
  refine AI ?_
  refine D9 ?_
  refine AQ (AJ rfl (kn rfl) (kn rfl) (by omega) hx BM sle_41 esz_41 (BR x)) ?_
  refine AQ (AH rfl (kn rfl) agg_67 sz_67) ?_
  refine AW 8 [.is (.int .i64 0),.is (.int .i64 0),.is (.int .i64 0),.is (.int .u64 0),.is (.string ⟨#[]⟩),.is (.slice none 0 0),.is (.string ⟨#[]⟩),.is (.slice none 0 0),.is (.slice none 0 0),.is (.int .i64 0),.is (.int .i64 0),.is (.int .u64 0),.is (.string ⟨#[]⟩),.is (.slice none 0 0),.is (.string ⟨#[]⟩),.is (.slice none 0 0),.is (.slice none 0 0),.is (.int .i64 0),.is (.int .u64 0),.is (.string ⟨#[]⟩),.is (.slice none 0 0),.is (.string ⟨#[]⟩),.is (.slice none 0 0),.is (.slice none 0 0),.is (.slice none 0 0),.is (.bool false),.is (.string ⟨#[]⟩),.is (.string ⟨#[]⟩),.is (.slice none 0 0),.is (.slice none 0 0)] rfl rfl rfl rfl zr_67 (fun w D M V=>⟨rfl,fun j x v h1 h2=>AV _ h1 h2 rfl⟩) rfl rfl rfl rfl ?_
  refine BX ?_
  refine AT rfl rfl rfl (kn rfl) rfl (kn rfl) rfl rfl sz_67 ?_
  refine AM ?_
  try refine A3 ?_
  refine AI ?_
  refine AQ (A1 rfl (kn rfl) off_44_7) ?_
  refine AQ (A5 rfl (kn rfl) rfl rfl one_41) ?_
  refine D9 ?_
  refine AQ (AJ rfl (kn rfl) (kn rfl) (by omega) hy BM sle_41 esz_41 (BR y)) ?_
  refine AQ (AH rfl (kn rfl) agg_67 sz_67) ?_
  refine AW 9 [.is (.int .i64 0),.is (.int .i64 0),.is (.int .i64 0),.is (.int .u64 0),.is (.string ⟨#[]⟩),.is (.slice none 0 0),.is (.string ⟨#[]⟩),.is (.slice none 0 0),.is (.slice none 0 0),.is (.int .i64 0),.is (.int .i64 0),.is (.int .u64 0),.is (.string ⟨#[]⟩),.is (.slice none 0 0),.is (.string ⟨#[]⟩),.is (.slice none 0 0),.is (.slice none 0 0),.is (.int .i64 0),.is (.int .u64 0),.is (.string ⟨#[]⟩),.is (.slice none 0 0),.is (.string ⟨#[]⟩),.is (.slice none 0 0),.is (.slice none 0 0),.is (.slice none 0 0),.is (.bool false),.is (.string ⟨#[]⟩),.is (.string ⟨#[]⟩),.is (.slice none 0 0),.is (.slice none 0 0)] rfl rfl rfl rfl zr_67 (fun w D M V=>⟨rfl,fun j x v h1 h2=>AV _ h1 h2 rfl⟩) rfl rfl rfl rfl ?_
  refine AT rfl rfl rfl (kn rfl) rfl (kn rfl) rfl rfl sz_67 ?_
  refine AM ?_
  try refine A3 ?_
  refine A2 (A4 rfl rfl rfl (A1 rfl (kn rfl) off_67_0) (A4 rfl rfl rfl (A5 rfl (kn rfl) rfl rfl one_3) (A4 rfl rfl rfl (A1 rfl (kn rfl) off_67_0) (A4 rfl rfl rfl (A5 rfl (kn rfl) rfl rfl one_3) (A4 rfl rfl rfl (A6 rfl (kn rfl) (kn rfl) BI) (A9 rfl rfl rfl rfl rfl (Walk.gd _ rfl rfl rfl (fun h=>A1 rfl (kn rfl) off_67_1) (Walk.gd _ rfl rfl rfl (fun h=>A5 rfl (A0 rfl h) rfl rfl one_3) (Walk.gd _ rfl rfl rfl (fun h=>A1 rfl (kn rfl) off_67_1) (Walk.gd _ rfl rfl rfl (fun h=>A5 rfl (A0 rfl h) rfl rfl one_3) (Walk.gd _ rfl rfl rfl (fun h=>A6 rfl (A0 rfl h) (A0 rfl h) BI) (A4 rfl rfl rfl (BO rfl (kn rfl) (fun hb=>A0 rfl hb)) (A9 rfl rfl rfl rfl rfl (Walk.gd _ rfl rfl rfl (fun h=>A1 rfl (kn rfl) off_67_2) (Walk.gd _ rfl rfl rfl (fun h=>A7 (ds:=[_,_,_,_,_,_,_]) 7 rfl (A0 rfl h) rfl rfl agg_39 sz_39 rfl) (Walk.gd _ rfl rfl rfl (fun h=>A1 rfl (kn rfl) off_67_2) (Walk.gd _ rfl rfl rfl (fun h=>A7 (ds:=[_,_,_,_,_,_,_]) 7 rfl (A0 rfl h) rfl rfl agg_39 sz_39 rfl) (Walk.gd _ rfl rfl rfl (fun h=>AD rfl (by kernel_rfl) (HC x.1.2.2 y.1.2.2 (a3 x mx).2.2.2.fine (b3 y my).2.2.2.fine) ⟨(A0 rfl h),⟨(A0 rfl h),trivial⟩⟩) (Walk.gd _ rfl rfl rfl (fun h=>BZ rfl (A0 rfl h)) (A4 rfl rfl rfl (BO rfl (kn rfl) (fun hb=>A0 rfl hb)) (A9 rfl rfl rfl rfl rfl (Walk.gd _ rfl rfl rfl (fun h=>A1 rfl (kn rfl) off_67_3) (Walk.gd _ rfl rfl rfl (fun h=>A7 (ds:=[_,_,_,_,_,_,_,_,_,_,_,_,_,_,_,_,_,_,_,_,_]) 21 rfl (A0 rfl h) rfl rfl agg_44 sz_44 rfl) (Walk.gd _ rfl rfl rfl (fun h=>A1 rfl (kn rfl) off_67_3) (Walk.gd _ rfl rfl rfl (fun h=>A7 (ds:=[_,_,_,_,_,_,_,_,_,_,_,_,_,_,_,_,_,_,_,_,_]) 21 rfl (A0 rfl h) rfl rfl agg_44 sz_44 rfl) (Walk.gd _ rfl rfl rfl (fun h=>AD rfl (by kernel_rfl) (ih x.2 (Ed.kid_s mx) y.2 (hb.kid (Ed.kid_s my))) ⟨(A0 rfl h),⟨(A0 rfl h),trivial⟩⟩) (Walk.gd _ rfl rfl rfl (fun h=>BZ rfl (A0 rfl h)) (A4 rfl rfl rfl (BO rfl (kn rfl) (fun hb=>A0 rfl hb)) .nil)))))))))))))))))))))))))))) ?_
  try refine A3 ?_
  refine AB rfl (fun h1=>?_) (fun h1=>?_)
  ·have e:eeq a b=false:=by
    rw[q,hs]
    simp only[Bool.or_eq_true,Bool.not_eq_true',decide_eq_false_iff_not]at h1
    rcases h1 with((h1 | h1) | h1) | h1<;>simp[CP,h1]
   try refine A3 ?_
   refine A2 (AC rfl rfl rfl rfl rfl .nil) ?_
   try refine A3 ?_
   exact A8 rfl rfl (.tmp (kn rfl) (.nil)) (Imp.of_eq (by rw[e];rfl)) rfl
  simp only[Bool.or_eq_false_iff,Bool.not_eq_false',decide_eq_true_eq]at h1
  rw[show KG x y=true by simp[CP,h1.1.1.1,h1.1.1.2,h1.1.2,h1.2],Bool.true_and]at hs
  try refine A3 ?_
  refine A2 (A4 rfl rfl rfl (A6 rfl (kn rfl) (kn rfl) (AK (by first | omega | (dsimp only;omega)))) (A9 rfl rfl rfl rfl rfl .nil)) ?_
  try refine A3 ?_
  refine AS ⟨k+1,by omega,hs⟩ (by dsimp only;omega) (fun K=>AL ⟨s_t,s_t,s_t,s_t,s_t,trivial⟩ ⟨s_b,s_b,trivial⟩ trivial)
 rw[F0 g8 (by have:=of_decide_eq_false h;omega) hw,Bool.true_and]at q
 try refine A3 ?_
 refine A2 (A4 rfl rfl rfl (A1 rfl (kn rfl) off_44_8) (A4 rfl rfl rfl (A5 rfl (kn rfl) rfl rfl one_42) (A4 rfl rfl rfl (AR rfl (kn rfl) sle_42) (A9 rfl rfl rfl rfl rfl .nil)))) ?_
 try refine A3 ?_
 refine AX (ι:={ k:Nat // k<=(a.keys).length/\C6 OL (a.keys) (b.keys)=C6 OL ((a.keys).drop k) ((b.keys).drop k) })
  (fun k=>[(2,.box 2 0),(3,.box 3 0),(154,.part (.one (.row 28 (a.keys).length ((a.keys).flatMap CU)))),(155,.is (.int .i64 ((a.keys).length:Int))),(156,.is (.int .i64 (k.1:Int)))])
  (fun _=>[(2,⟨44,bcs (ed a)⟩),(3,⟨44,bcs (ed b)⟩)]) (fun _=>[]) (fun k=>(a.keys).length-k.1) ⟨0,by omega,rfl⟩
  (fun K=>AL ⟨s_t,s_t,s_t,s_t,s_t,trivial⟩ ⟨s_b,s_b,trivial⟩ trivial) ?_
 rintro⟨k,hk,hw⟩
 dsimp only at hk hw ⊢
 try refine A3 ?_
 refine A2 (A4 rfl rfl rfl (A6 rfl (kn rfl) (kn rfl) AY) .nil) ?_
 try refine A3 ?_
 refine AB rfl (fun h=>?_) (fun h=>?_)
 ·have hlt:k<(a.keys).length:=by have:=of_decide_eq_true h;omega
  obtain⟨x,hx⟩:∃ x,(a.keys)[k]?=some x:=⟨_,List.getElem?_eq_getElem hlt⟩
  obtain⟨y,hy⟩:∃ y,(b.keys)[k]?=some y:=⟨_,List.getElem?_eq_getElem (by omega)⟩
  have mx:=List.mem_of_getElem? hx
  have my:=List.mem_of_getElem? hy
  have hs:=E3 hx hy hw
  try refine A3 ?_
  refine AI ?_
  refine D9 ?_
  refine AQ (AJ rfl (kn rfl) (kn rfl) (by omega) hx BK sle_42 esz_42 (BS x)) ?_
  refine AQ (AH rfl (kn rfl) agg_63 sz_63) ?_
  refine AW 11 [.is (.int .i64 0),.is (.int .u64 0),.is (.string ⟨#[]⟩),.is (.slice none 0 0),.is (.string ⟨#[]⟩),.is (.slice none 0 0),.is (.slice none 0 0),.is (.int .i64 0),.is (.int .i64 0),.is (.int .u64 0),.is (.string ⟨#[]⟩),.is (.slice none 0 0),.is (.string ⟨#[]⟩),.is (.slice none 0 0),.is (.slice none 0 0),.is (.int .i64 0),.is (.int .u64 0),.is (.string ⟨#[]⟩),.is (.slice none 0 0),.is (.string ⟨#[]⟩),.is (.slice none 0 0),.is (.slice none 0 0),.is (.slice none 0 0),.is (.bool false),.is (.string ⟨#[]⟩),.is (.string ⟨#[]⟩),.is (.slice none 0 0),.is (.slice none 0 0)] rfl rfl rfl rfl zr_63 (fun w D M V=>⟨rfl,fun j x v h1 h2=>AV _ h1 h2 rfl⟩) rfl rfl rfl rfl ?_
  refine BX ?_
  refine AT rfl rfl rfl (kn rfl) rfl (kn rfl) rfl rfl sz_63 ?_
  refine AM ?_
  try refine A3 ?_
  refine BD BF (by kernel_rfl) (A4 rfl rfl rfl (A1 rfl (kn rfl) off_63_0) (A4 rfl rfl rfl (A7 (ds:=[_,_,_,_,_,_,_]) 7 rfl (kn rfl) rfl rfl agg_39 sz_39 rfl) (A4 rfl rfl rfl (A1 rfl (kn rfl) off_44_8) (A4 rfl rfl rfl (A5 rfl (kn rfl) rfl rfl one_42) (A9 rfl rfl rfl rfl rfl (A4 rfl rfl rfl (AJ rfl (kn rfl) (kn rfl) (by omega) hy BK sle_42 esz_42 (BS y)) (A4 rfl rfl rfl (AA rfl (kn rfl) off_63_0) (A4 rfl rfl rfl (B2 (vd y.1) 7 rfl (kn rfl) agg_39 sz_39 rfl rfl) (A4 rfl rfl rfl (AD rfl (by kernel_rfl) (HC x.1 y.1 (a4 x mx).fine (b4 y my).fine) ⟨(kn rfl),⟨(kn rfl),trivial⟩⟩) (A4 rfl rfl rfl (BZ rfl (kn rfl)) (A9 rfl rfl rfl rfl rfl (Walk.gd _ rfl rfl rfl (fun h=>A1 rfl (kn rfl) off_63_1) (Walk.gd _ rfl rfl rfl (fun h=>A7 (ds:=[_,_,_,_,_,_,_,_,_,_,_,_,_,_,_,_,_,_,_,_,_]) 21 rfl (A0 rfl h) rfl rfl agg_44 sz_44 rfl) (Walk.gd _ rfl rfl rfl (fun h=>A1 rfl (kn rfl) off_44_8) (Walk.gd _ rfl rfl rfl (fun h=>A5 rfl (A0 rfl h) rfl rfl one_42) (Walk.gd _ rfl rfl rfl (fun h=>AN rfl (kn rfl)) (Walk.gd _ rfl rfl rfl (fun h=>AJ rfl (A0 rfl h) (A0 rfl h) (by omega) hy BK sle_42 esz_42 (BS y)) (Walk.gd _ rfl rfl rfl (fun h=>AA rfl (A0 rfl h) off_63_1) (Walk.gd _ rfl rfl rfl (fun h=>AH rfl (A0 rfl h) agg_44 sz_44) (Walk.gd _ rfl rfl rfl (fun h=>AD rfl (by kernel_rfl) (ih x.2 (Ed.kid_k mx) y.2 (hb.kid (Ed.kid_k my))) ⟨(A0 rfl h),⟨(A0 rfl h),trivial⟩⟩) (Walk.gd _ rfl rfl rfl (fun h=>BZ rfl (A0 rfl h)) (A4 rfl rfl rfl (BO rfl (kn rfl) (fun hb=>A0 rfl hb)) .nil)))))))))))))))))))))) ?_
  try refine A3 ?_
  refine AB rfl (fun h1=>?_) (fun h1=>?_)
  ·have e:eeq a b=false:=by
    rw[q,hs]
    simp only[Bool.or_eq_true,Bool.not_eq_true',decide_eq_false_iff_not]at h1
    rcases h1 with h1 | h1<;>simp[CP,h1]
   try refine A3 ?_
   refine A2 (AC rfl rfl rfl rfl rfl .nil) ?_
   try refine A3 ?_
   exact A8 rfl rfl (.tmp (kn rfl) (.nil)) (Imp.of_eq (by rw[e];rfl)) rfl
  simp only[Bool.or_eq_false_iff,Bool.not_eq_false',decide_eq_true_eq]at h1
  rw[show OL x y=true by simp[CP,h1.1,h1.2],Bool.true_and]at hs
  try refine A3 ?_
  refine A2 (A4 rfl rfl rfl (A6 rfl (kn rfl) (kn rfl) (AK (by first | omega | (dsimp only;omega)))) (A9 rfl rfl rfl rfl rfl .nil)) ?_
  try refine A3 ?_
  refine AS ⟨k+1,by omega,hs⟩ (by dsimp only;omega) (fun K=>AL ⟨s_t,s_t,s_t,s_t,s_t,trivial⟩ ⟨s_b,s_b,trivial⟩ trivial)
 have e:eeq a b=true:=by rw[q,F0 g9 (by have:=of_decide_eq_false h;omega) hw]
 try refine A3 ?_
 refine A2 (AC rfl rfl rfl rfl rfl .nil) ?_
 try refine A3 ?_
 exact A8 rfl rfl (.tmp (kn rfl) (.nil)) (Imp.of_eq (by rw[e];rfl)) rfl
theorem U9(a:Ed):a.Sm->REq a:=Ed.kids_ind (P:=fun a=>a.Sm->REq a) (fun a ih h=>T1 a h fun x hx=>ih x hx (h.kid hx)) a
end Go.Proofs.YtojdpgeeajaojaaGreat
