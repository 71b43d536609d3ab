/- Part 18. Conditions: as each theorem says. -/
import Derived.Test.YtojdpgeeajaojaaGreatET17
import Derived.Test.YtojdpgeeajaojaaGreatProg
set_option maxRecDepth 100000
namespace Go.Proofs.YtojdpgeeajaojaaGreat
open Go.RowKit
theorem QN(e:Ed):DF e=true↔(e.kind=1\/(DE e.old=true/\DE e.new=true))/\(e.kind=2\/(e.fields.length=0/\e.rests=false/\e.ro.length=0/\e.rn.length=0))/\(e.kind=3\/e.steps.length=0)/\(e.kind=4\/e.keys.length=0):=by
 unfold DF
 simp only[Bool.and_eq_true,Bool.or_eq_true,decide_eq_true_eq,List.isEmpty_iff,List.length_eq_zero_iff,Bool.not_eq_true']
 constructor
 ·rintro⟨⟨⟨h1,h2⟩,h3⟩,h4⟩
  exact⟨h1,h2.imp id fun h=>⟨h.1.1.1,h.1.1.2,h.1.2,h.2⟩,h3,h4⟩
 ·rintro⟨h1,h2,h3,h4⟩
  exact⟨⟨⟨h1,h2.imp id fun h=>⟨⟨⟨h.1,h.2.1⟩,h.2.2.1⟩,h.2.2.2⟩⟩,h3⟩,h4⟩
theorem EO{α:Type}{l:List α}{k:Nat}{p:α}(h:l[((k:Int)-1).toNat]?=some p):DA l k=if k=0 then none else some p:=by
 unfold DA
 split
 ·rfl
 ·rw[<- h];congr 1;omega
theorem hz_1{k:Nat}(h:decide ((0:Int)<(k:Int))=true):(0:Int)<=(k:Int)-1:=by
 have:=of_decide_eq_true h
 omega
def I6(e:Ed):Prop:=EF Tryz.prog [] 8 [.many (ed e)] (.part (tP (BU e)))
theorem MP(e:Ed)(hr:I6 e):EF Tryz.prog [] 23 [.many (ed e)] (.part (tP (decide (e.kind=0)&&BU e))):=by
 refine AG 10 Tryz.func23 rfl rfl rfl fun w D=>?_
 try refine A3 ?_
 refine AI ?_
 refine B9 1 rfl rfl rfl rfl (kn rfl) rfl rfl rfl rfl ?_
 refine BX ?_
 refine AM ?_
 try refine A3 ?_
 refine A2 (A4 rfl rfl rfl (A1 rfl (kn rfl) off_44_0) (A4 rfl rfl rfl (A5 rfl (kn rfl) rfl rfl one_3) (A4 rfl rfl rfl (A6 rfl (kn rfl) (kn rfl) AP) (A9 rfl rfl rfl rfl rfl (Walk.gd _ rfl rfl rfl (fun h=>A7 (ds:=[_,_,_,_,_,_,_,_,_,_,_,_,_,_,_,_,_,_,_,_,_]) 21 rfl (kn rfl) rfl rfl agg_44 sz_44 rfl) (Walk.gd _ rfl rfl rfl (fun h=>AD rfl (by kernel_rfl) (hr) ⟨(A0 rfl h),trivial⟩) (A4 rfl rfl rfl (AO rfl (kn rfl) (fun hb=>A0 rfl hb)) (AC rfl rfl rfl rfl rfl .nil)))))))) ?_
 try refine A3 ?_
 exact A8 rfl rfl (.tmp (kn rfl) (.nil)) (Imp.of_eq rfl) rfl
theorem JS{e:Ed}(h:e.kind<0\/4<e.kind):BU e=false:=by
 rw[F6,if_neg (by omega),if_neg (by omega),if_neg (by omega),if_neg (by omega),if_neg (by omega),Bool.and_false]
theorem JK(p x:(Int×Int×Vl)×Ed):EM p x = !(decide (x.1.1=1)&&decide (p.1.1=1)||decide (x.1.1=2)&&decide (p.1.1=3)):=by
 unfold EM
 by_cases p1:p.1.1=1
 ·rw[if_pos p1];simp[p1]
 ·rw[if_neg p1]
  by_cases p3:p.1.1=3
  ·rw[if_pos p3];simp[p3]
  ·rw[if_neg p3];simp[p1,p3]
theorem NW{α:Type}{f:α->Bool}{l:List α}{k:Nat}{x:α}(h:l[k]?=some x):((l.take (k+1)).filter f).length=((l.take k).filter f).length+if f x=true then 1 else 0:=by
 rw[List.take_add_one,h,List.filter_append,List.length_append]
 cases hf:f x<;>simp[hf]
theorem P3{α:Type}(f:α->Bool)(l:List α):l.any f=decide ((0:Int)<((l.filter f).length:Int)):=by
 induction l with
 | nil=>rfl
 | cons x l ih=>cases hf:f x<;>simp[hf,ih]
set_option maxHeartbeats 4000000 in
theorem N8(e:Ed)(hs:e.Sm)(ih:∀ x∈e.kids,I6 x):I6 e:=by
 unfold I6
 have hl:=hs.lens
 obtain⟨k1,o1,o2,r1,r2,_,h3,h4⟩:=hs.ok.all
 have q:=F6 e
 have bi:=QN e
 refine AG 351 Tryz.func8 rfl rfl rfl fun w D=>?_
 try refine A3 ?_
 refine AI ?_
 refine B9 1 rfl rfl rfl rfl (kn rfl) rfl rfl rfl rfl ?_
 refine BX ?_
 refine AM ?_
 try refine A3 ?_
 refine A2 (A4 rfl rfl rfl (A1 rfl (kn rfl) off_44_0) (A4 rfl rfl rfl (A5 rfl (kn rfl) rfl rfl one_3) (A4 rfl rfl rfl (A6 rfl (kn rfl) (kn rfl) AY) (A9 rfl rfl rfl rfl rfl (Walk.gd _ rfl rfl rfl (fun h=>A1 rfl (kn rfl) off_44_0) (Walk.gd _ rfl rfl rfl (fun h=>A5 rfl (A0 rfl h) rfl rfl one_3) (Walk.gd _ rfl rfl rfl (fun h=>A6 rfl (A0 rfl h) (kn rfl) BN) (A4 rfl rfl rfl (BO rfl (kn rfl) (fun hb=>A0 rfl hb)) .nil)))))))) ?_
 try refine A3 ?_
 refine AB rfl (fun h=>?_) (fun h=>?_)
 ·simp only[Bool.or_eq_true,decide_eq_true_eq]at h
  have q2:=JS h
  try refine A3 ?_
  refine A2 (AC rfl rfl rfl rfl rfl .nil) ?_
  try refine A3 ?_
  exact A8 rfl rfl (.tmp (kn rfl) (.nil)) (Imp.of_eq (by rw[q2];rfl)) rfl
 simp only[Bool.or_eq_false_iff,decide_eq_false_iff_not]at h
 try refine A3 ?_
 refine A2 (A4 rfl rfl rfl (A1 rfl (kn rfl) off_44_0) (A4 rfl rfl rfl (A5 rfl (kn rfl) rfl rfl one_3) (A4 rfl rfl rfl (A6 rfl (kn rfl) (kn rfl) BI) (A9 rfl rfl rfl rfl rfl (Walk.gd _ rfl rfl rfl (fun h=>A1 rfl (kn rfl) off_44_1) (Walk.gd _ rfl rfl rfl (fun h=>A7 (ds:=[_,_,_,_,_,_,_]) 7 rfl (A0 rfl h) rfl rfl agg_39 sz_39 rfl) (Walk.gd _ rfl rfl rfl (fun h=>AD rfl (by kernel_rfl) (FH e.old o1) ⟨(A0 rfl h),trivial⟩) (Walk.gd _ rfl rfl rfl (fun h=>BZ rfl (A0 rfl h)) (Walk.gd _ rfl rfl rfl (fun h=>AN rfl (A0 rfl h)) (Walk.gd _ rfl rfl rfl (fun h=>A1 rfl (kn rfl) off_44_2) (Walk.gd _ rfl rfl rfl (fun h=>A7 (ds:=[_,_,_,_,_,_,_]) 7 rfl (A0 rfl h) rfl rfl agg_39 sz_39 rfl) (Walk.gd _ rfl rfl rfl (fun h=>AD rfl (by kernel_rfl) (FH e.new o2) ⟨(A0 rfl h),trivial⟩) (Walk.gd _ rfl rfl rfl (fun h=>BZ rfl (A0 rfl h)) (Walk.gd _ rfl rfl rfl (fun h=>BO rfl (A0 rfl h) (fun hb=>A0 rfl (gb h hb))) (A4 rfl rfl rfl (AO rfl (kn rfl) (fun hb=>A0 rfl hb)) (A9 rfl rfl rfl rfl rfl (Walk.gd _ rfl rfl rfl (fun h=>A1 rfl (kn rfl) off_44_0) (Walk.gd _ rfl rfl rfl (fun h=>A5 rfl (A0 rfl h) rfl rfl one_3) (Walk.gd _ rfl rfl rfl (fun h=>A6 rfl (A0 rfl h) (kn rfl) BI) (Walk.gd _ rfl rfl rfl (fun h=>AN rfl (A0 rfl h)) (Walk.gd _ rfl rfl rfl (fun h=>A1 rfl (kn rfl) off_44_3) (Walk.gd _ rfl rfl rfl (fun h=>A5 rfl (A0 rfl h) rfl rfl one_40) (Walk.gd _ rfl rfl rfl (fun h=>AR rfl (A0 rfl h) sle_40) (Walk.gd _ rfl rfl rfl (fun h=>A6 rfl (A0 rfl h) (kn rfl) BN) (Walk.gd _ rfl rfl rfl (fun h=>AN rfl (A0 rfl h)) (Walk.gd _ rfl rfl rfl (fun h=>A1 rfl (kn rfl) off_44_4) (Walk.gd _ rfl rfl rfl (fun h=>A5 rfl (A0 rfl h) rfl rfl one_4) (Walk.gd _ rfl rfl rfl (fun h=>BO rfl (A0 rfl h) (fun hb=>A0 rfl (gb h hb))) (Walk.gd _ rfl rfl rfl (fun h=>AN rfl (A0 rfl h)) (Walk.gd _ rfl rfl rfl (fun h=>A1 rfl (kn rfl) off_44_5) (Walk.gd _ rfl rfl rfl (fun h=>A5 rfl (A0 rfl h) rfl rfl one_9) (Walk.gd _ rfl rfl rfl (fun h=>DB rfl (A0 rfl h) str_9) (Walk.gd _ rfl rfl rfl (fun h=>A1 rfl (kn rfl) off_44_6) (Walk.gd _ rfl rfl rfl (fun h=>A5 rfl (A0 rfl h) rfl rfl one_9) (Walk.gd _ rfl rfl rfl (fun h=>DB rfl (A0 rfl h) str_9) (Walk.gd _ rfl rfl rfl (fun h=>A6 rfl (A0 rfl h) (A0 rfl h) (AK (by first | omega | (dsimp only;omega)))) (Walk.gd _ rfl rfl rfl (fun h=>A6 rfl (A0 rfl h) (kn rfl) BN) (Walk.gd _ rfl rfl rfl (fun h=>BO rfl (A0 rfl h) (fun hb=>A0 rfl (gb h hb))) (Walk.gd _ rfl rfl rfl (fun h=>AO rfl (A0 rfl h) (fun hb=>A0 rfl (gb h hb))) (A4 rfl rfl rfl (BO rfl (kn rfl) (fun hb=>A0 rfl hb)) (A9 rfl rfl rfl rfl rfl (Walk.gd _ rfl rfl rfl (fun h=>A1 rfl (kn rfl) off_44_0) (Walk.gd _ rfl rfl rfl (fun h=>A5 rfl (A0 rfl h) rfl rfl one_3) (Walk.gd _ rfl rfl rfl (fun h=>A6 rfl (A0 rfl h) (kn rfl) BI) (Walk.gd _ rfl rfl rfl (fun h=>AN rfl (A0 rfl h)) (Walk.gd _ rfl rfl rfl (fun h=>A1 rfl (kn rfl) off_44_7) (Walk.gd _ rfl rfl rfl (fun h=>A5 rfl (A0 rfl h) rfl rfl one_41) (Walk.gd _ rfl rfl rfl (fun h=>AR rfl (A0 rfl h) sle_41) (Walk.gd _ rfl rfl rfl (fun h=>A6 rfl (A0 rfl h) (kn rfl) BN) (Walk.gd _ rfl rfl rfl (fun h=>AO rfl (A0 rfl h) (fun hb=>A0 rfl (gb h hb))) (A4 rfl rfl rfl (BO rfl (kn rfl) (fun hb=>A0 rfl hb)) (A9 rfl rfl rfl rfl rfl (Walk.gd _ rfl rfl rfl (fun h=>A1 rfl (kn rfl) off_44_0) (Walk.gd _ rfl rfl rfl (fun h=>A5 rfl (A0 rfl h) rfl rfl one_3) (Walk.gd _ rfl rfl rfl (fun h=>A6 rfl (A0 rfl h) (kn rfl) BI) (Walk.gd _ rfl rfl rfl (fun h=>AN rfl (A0 rfl h)) (Walk.gd _ rfl rfl rfl (fun h=>A1 rfl (kn rfl) off_44_8) (Walk.gd _ rfl rfl rfl (fun h=>A5 rfl (A0 rfl h) rfl rfl one_42) (Walk.gd _ rfl rfl rfl (fun h=>AR rfl (A0 rfl h) sle_42) (Walk.gd _ rfl rfl rfl (fun h=>A6 rfl (A0 rfl h) (kn rfl) BN) (Walk.gd _ rfl rfl rfl (fun h=>AO rfl (A0 rfl h) (fun hb=>A0 rfl (gb h hb))) (A4 rfl rfl rfl (BO rfl (kn rfl) (fun hb=>A0 rfl hb)) .nil)))))))))))))))))))))))))))))))))))))))))))))))))))))))))))))) ?_
 try refine A3 ?_
 refine AB rfl (fun h2=>?_) (fun h2=>?_)
 ·have hb:DF e=false:=by
   cases hc:DF e
   ·rfl
   ·have hd:=bi.1 hc
    simp only[Bool.or_eq_true,Bool.and_eq_true,Bool.not_eq_true',decide_eq_true_eq,decide_eq_false_iff_not]at h2
    clear q bi
    generalize DE e.old=b1 at *
    generalize DE e.new=b2 at *
    generalize e.rests=b3 at *
    generalize e.fields.length=l1 at *
    generalize e.steps.length=l2 at *
    generalize e.keys.length=l3 at *
    generalize e.ro.length=l4 at *
    generalize e.rn.length=l5 at *
    cases b1<;>cases b2<;>cases b3<;>simp at hd h2<;>omega
  rw[hb,Bool.false_and]at q
  try refine A3 ?_
  refine A2 (AC rfl rfl rfl rfl rfl .nil) ?_
  try refine A3 ?_
  exact A8 rfl rfl (.tmp (kn rfl) (.nil)) (Imp.of_eq (by rw[q];rfl)) rfl
 have hb:DF e=true:=by
  refine bi.2 ?_
  simp only[Bool.or_eq_false_iff,Bool.and_eq_false_iff,Bool.not_eq_false',decide_eq_true_eq,decide_eq_false_iff_not]at h2
  clear q bi
  generalize DE e.old=b1 at *
  generalize DE e.new=b2 at *
  generalize e.rests=b3 at *
  generalize e.fields.length=l1 at *
  generalize e.steps.length=l2 at *
  generalize e.keys.length=l3 at *
  generalize e.ro.length=l4 at *
  generalize e.rn.length=l5 at *
  cases b1<;>cases b2<;>cases b3<;>simp at h2 ⊢ <;> omega
 clear h2
 rw[hb,Bool.true_and]at q
 try refine A3 ?_
 refine A2 (A4 rfl rfl rfl (A1 rfl (kn rfl) off_44_0) (A4 rfl rfl rfl (A5 rfl (kn rfl) rfl rfl one_3) .nil)) ?_
 try refine A3 ?_
 try refine A3 ?_
 refine A2 (A4 rfl rfl rfl (A6 rfl (kn rfl) (kn rfl) AP) (AC rfl rfl rfl rfl rfl .nil)) ?_
 try refine A3 ?_
 refine AB rfl (fun c1=>?_) (fun c1=>?_)
 ·have c1:=of_decide_eq_true c1
  rw[if_neg (by omega),if_pos c1]at q
  try refine A3 ?_
  refine A2 (A4 rfl rfl rfl (A1 rfl (kn rfl) off_44_1) (A4 rfl rfl rfl (A7 (ds:=[_,_,_,_,_,_,_]) 7 rfl (kn rfl) rfl rfl agg_39 sz_39 rfl) (A4 rfl rfl rfl (AD rfl (by kernel_rfl) (FV e.old o1.fine o1.tx (o1.le (by decide))) ⟨(kn rfl),trivial⟩) (A9 rfl rfl rfl rfl rfl (Walk.gd _ rfl rfl rfl (fun h=>A1 rfl (kn rfl) off_44_2) (Walk.gd _ rfl rfl rfl (fun h=>A7 (ds:=[_,_,_,_,_,_,_]) 7 rfl (A0 rfl h) rfl rfl agg_39 sz_39 rfl) (Walk.gd _ rfl rfl rfl (fun h=>AD rfl (by kernel_rfl) (FV e.new o2.fine o2.tx (o2.le (by decide))) ⟨(A0 rfl h),trivial⟩) (A4 rfl rfl rfl (AO rfl (kn rfl) (fun hb=>A0 rfl hb)) (A9 rfl rfl rfl rfl rfl (Walk.gd _ rfl rfl rfl (fun h=>A1 rfl (kn rfl) off_44_1) (Walk.gd _ rfl rfl rfl (fun h=>A7 (ds:=[_,_,_,_,_,_,_]) 7 rfl (A0 rfl h) rfl rfl agg_39 sz_39 rfl) (Walk.gd _ rfl rfl rfl (fun h=>A1 rfl (kn rfl) off_44_2) (Walk.gd _ rfl rfl rfl (fun h=>A7 (ds:=[_,_,_,_,_,_,_]) 7 rfl (A0 rfl h) rfl rfl agg_39 sz_39 rfl) (Walk.gd _ rfl rfl rfl (fun h=>AD rfl (by kernel_rfl) (HC e.old e.new o1.fine o2.fine) ⟨(A0 rfl h),⟨(A0 rfl h),trivial⟩⟩) (Walk.gd _ rfl rfl rfl (fun h=>BZ rfl (A0 rfl h)) (A4 rfl rfl rfl (AO rfl (kn rfl) (fun hb=>A0 rfl hb)) (AC rfl rfl rfl rfl rfl .nil))))))))))))))))) ?_
  try refine A3 ?_
  exact A8 rfl rfl (.tmp (kn rfl) (.nil)) (Imp.of_eq (by rw[q];rfl)) rfl
 have n1:=of_decide_eq_false c1
 clear c1
 try refine A3 ?_
 refine A2 (A4 rfl rfl rfl (A6 rfl (kn rfl) (kn rfl) AP) (AC rfl rfl rfl rfl rfl .nil)) ?_
 try refine A3 ?_
 refine AB rfl (fun c2=>?_) (fun c2=>?_)
 ·have c2:=of_decide_eq_true c2
  rw[if_neg (by omega),if_neg (by omega),if_pos c2]at q
  try refine A3 ?_
  refine A2 (A4 rfl rfl rfl (A1 rfl (kn rfl) off_44_3) (A4 rfl rfl rfl (A5 rfl (kn rfl) rfl rfl one_40) (A4 rfl rfl rfl (AR rfl (kn rfl) sle_40) (A9 rfl rfl rfl rfl rfl .nil)))) ?_
  try refine A3 ?_
  refine AX (ι:={ k:Nat // k<=e.fields.length/\C3 JV EH none e.fields=C3 JV EH (DA e.fields k) (e.fields.drop k) })
   (fun k=>[(1,.box 1 0),(104,.part (.one (.row 22 e.fields.length (e.fields.flatMap CT)))),(105,.is (.int .i64 (e.fields.length:Int))),(106,.is (.int .i64 (k.1:Int)))])
   (fun _=>[(1,⟨44,bcs (ed e)⟩)]) (fun _=>[]) (fun k=>e.fields.length-k.1) ⟨0,by omega,rfl⟩
   (fun K=>AL ⟨s_t,s_t,s_t,s_t,trivial⟩ ⟨s_b,trivial⟩ trivial) ?_
  rintro⟨k,hk,hw⟩
  dsimp only at hk hw ⊢
  try refine A3 ?_
  refine A2 (A4 rfl rfl rfl (A6 rfl (kn rfl) (kn rfl) AY) .nil) ?_
  try refine A3 ?_
  refine AB rfl (fun h=>?_) (fun h=>?_)
  ·have hlt:k<(e.fields).length:=by have:=of_decide_eq_true h;omega
   obtain⟨x,hx⟩:∃ x,(e.fields)[k]?=some x:=⟨_,List.getElem?_eq_getElem hlt⟩
   obtain⟨p,hp⟩:=EC hlt
   have mx:=List.mem_of_getElem? hx
   have hpo:=EO hp
   try refine A3 ?_
   refine AI ?_
   refine D9 ?_
   refine AQ (AJ rfl (kn rfl) (kn rfl) (by omega) hx BT sle_40 esz_40 (C0 x)) ?_
   refine AQ (AH rfl (kn rfl) agg_59 sz_59) ?_
   refine AW 4 [.is (.int .i64 0),.is (.int .i64 0),.is (.int .i64 0),.is (.int .u64 0),.is (.string ⟨#[]⟩),.is (.slice none 0 0),.is (.string ⟨#[]⟩),.is (.slice none 0 0),.is (.slice none 0 0),.is (.int .i64 0),.is (.int .u64 0),.is (.string ⟨#[]⟩),.is (.slice none 0 0),.is (.string ⟨#[]⟩),.is (.slice none 0 0),.is (.slice none 0 0),.is (.slice none 0 0),.is (.bool false),.is (.string ⟨#[]⟩),.is (.string ⟨#[]⟩),.is (.slice none 0 0),.is (.slice none 0 0)] rfl rfl rfl rfl zr_59 (fun w D M V=>⟨rfl,fun j x v h1 h2=>AV _ h1 h2 rfl⟩) rfl rfl rfl rfl ?_
   refine BX ?_
   refine AT rfl rfl rfl (kn rfl) rfl (kn rfl) rfl rfl sz_59 ?_
   refine AM ?_
   try refine A3 ?_
   refine BD BF (by kernel_rfl) (A4 rfl rfl rfl (A1 rfl (kn rfl) off_59_0) (A4 rfl rfl rfl (A5 rfl (kn rfl) rfl rfl one_3) (A4 rfl rfl rfl (A6 rfl (kn rfl) (kn rfl) AY) (A9 rfl rfl rfl rfl rfl (Walk.gd _ rfl rfl rfl (fun h=>A1 rfl (kn rfl) off_59_0) (Walk.gd _ rfl rfl rfl (fun h=>A5 rfl (A0 rfl h) rfl rfl one_3) (Walk.gd _ rfl rfl rfl (fun h=>A6 rfl (A0 rfl h) (kn rfl) BN) (A4 rfl rfl rfl (BO rfl (kn rfl) (fun hb=>A0 rfl hb)) (A9 rfl rfl rfl rfl rfl (Walk.gd _ rfl rfl rfl (fun h=>AN rfl (kn rfl)) (Walk.gd _ rfl rfl rfl (fun h=>A6 rfl (A0 rfl h) (kn rfl) BN) (Walk.gd _ rfl rfl rfl (fun h=>AN rfl (A0 rfl h)) (Walk.gd _ rfl rfl rfl (fun h=>A1 rfl (kn rfl) off_44_3) (Walk.gd _ rfl rfl rfl (fun h=>A5 rfl (A0 rfl h) rfl rfl one_40) (Walk.gd _ rfl rfl rfl (fun h=>AN rfl (kn rfl)) (Walk.gd _ rfl rfl rfl (fun h=>A6 rfl (A0 rfl h) (kn rfl) (CV (by first | omega | (dsimp only;omega)))) (Walk.gd _ rfl rfl rfl (fun h=>AJ rfl (A0 rfl h) (A0 rfl h) (RQ h) hp BT sle_40 esz_40 (C0 p)) (Walk.gd _ rfl rfl rfl (fun h=>AA rfl (A0 rfl h) off_59_0) (Walk.gd _ rfl rfl rfl (fun h=>AF rfl (A0 rfl h) one_3) (Walk.gd _ rfl rfl rfl (fun h=>A1 rfl (kn rfl) off_59_0) (Walk.gd _ rfl rfl rfl (fun h=>A5 rfl (A0 rfl h) rfl rfl one_3) (Walk.gd _ rfl rfl rfl (fun h=>A6 rfl (A0 rfl h) (A0 rfl h) CM) (Walk.gd _ rfl rfl rfl (fun h=>AO rfl (A0 rfl h) (fun hb=>A0 rfl (gb h hb))) (A4 rfl rfl rfl (BO rfl (kn rfl) (fun hb=>A0 rfl hb)) (A9 rfl rfl rfl rfl rfl (Walk.gd _ rfl rfl rfl (fun h=>A1 rfl (kn rfl) off_59_1) (Walk.gd _ rfl rfl rfl (fun h=>A1 rfl (A0 rfl h) off_44_0) (Walk.gd _ rfl rfl rfl (fun h=>A5 rfl (A0 rfl h) rfl rfl one_3) (Walk.gd _ rfl rfl rfl (fun h=>A6 rfl (A0 rfl h) (kn rfl) AP) (A4 rfl rfl rfl (BO rfl (kn rfl) (fun hb=>A0 rfl hb)) (A9 rfl rfl rfl rfl rfl (Walk.gd _ rfl rfl rfl (fun h=>A1 rfl (kn rfl) off_59_1) (Walk.gd _ rfl rfl rfl (fun h=>A7 (ds:=[_,_,_,_,_,_,_,_,_,_,_,_,_,_,_,_,_,_,_,_,_]) 21 rfl (A0 rfl h) rfl rfl agg_44 sz_44 rfl) (Walk.gd _ rfl rfl rfl (fun h=>AD rfl (by kernel_rfl) (ih x.2 (Ed.kid_f mx)) ⟨(A0 rfl h),trivial⟩) (Walk.gd _ rfl rfl rfl (fun h=>BZ rfl (A0 rfl h)) (A4 rfl rfl rfl (BO rfl (kn rfl) (fun hb=>A0 rfl hb)) .nil)))))))))))))))))))))))))))))))))))) ?_
   try refine A3 ?_
   refine AB rfl (fun h1=>?_) (fun h1=>?_)
   ·have q2:BU e=false:=by
     rw[q,CW hx hw,Bool.and_false]
     simp only[Bool.or_eq_true,Bool.and_eq_true,Bool.not_eq_true',decide_eq_true_eq]at h1
     rcases h1 with(((h1 | h1) | h1) | h1) | h1
     ·exact .inl (by simp only[DV,decide_eq_false (show ¬ 1<=x.1 by omega),Bool.false_and])
     ·exact .inl (by simp only[DV,decide_eq_false (show ¬ x.1<=536870911 by omega),Bool.and_false,Bool.false_and])
     ·exact .inr ⟨p,by rw[hpo,if_neg (by omega)],decide_eq_false (by omega)⟩
     ·exact .inl (by simp[DV,h1])
     ·exact .inl (by simp[DV,h1])
    try refine A3 ?_
    refine A2 (AC rfl rfl rfl rfl rfl .nil) ?_
    try refine A3 ?_
    exact A8 rfl rfl (.tmp (kn rfl) (.nil)) (Imp.of_eq (by rw[q2];rfl)) rfl
   simp only[Bool.or_eq_false_iff,Bool.and_eq_false_iff,Bool.not_eq_false',decide_eq_false_iff_not]at h1
   obtain⟨⟨⟨⟨g1,g2⟩,g3⟩,g4⟩,g5⟩:=h1
   have hw2:=DX hx hw (by simp only[DV,g5,decide_eq_true (show 1<=x.1 by omega),decide_eq_true (show x.1<=536870911 by omega),decide_eq_false g4];rfl) (fun p' hp'=>by
    rw[hpo]at hp'
    split at hp'
    ·cases hp'
    ·cases hp'
     exact decide_eq_true (by omega))
   try refine A3 ?_
   refine A2 (A4 rfl rfl rfl (A6 rfl (kn rfl) (kn rfl) (AK (by first | omega | (dsimp only;omega)))) (A9 rfl rfl rfl rfl rfl .nil)) ?_
   try refine A3 ?_
   refine AS ⟨k+1,by omega,hw2⟩ (by dsimp only;omega) (fun K=>AL ⟨s_t,s_t,s_t,s_t,trivial⟩ ⟨s_b,trivial⟩ trivial)
  rw[F3 (by have:=of_decide_eq_false h;omega) hw,Bool.and_true]at q
  try refine A3 ?_
  refine A2 (A4 rfl rfl rfl (A1 rfl (kn rfl) off_44_4) (A4 rfl rfl rfl (A5 rfl (kn rfl) rfl rfl one_4) (A4 rfl rfl rfl (BZ rfl (kn rfl)) .nil))) ?_
  try refine A3 ?_
  refine AB rfl (fun c=>?_) (fun c=>?_)
  ·have c:=IK c
   have q2:BU e=(decide ((0:Int)<(e.fields.length:Int))&&decide ((e.ro.length:Int)+(e.rn.length:Int)=0)):=by
    rw[q,IA,if_neg (by rw[c];decide),c,Bool.false_or,Bool.and_comm]
    congr 1
    ·cases e.fields<;>simp
    ·rw[<- Bool.decide_and]
     refine decide_eq_decide.2 ?_
     rw[<- List.length_eq_zero_iff,<- List.length_eq_zero_iff]
     omega
   try refine A3 ?_
   refine A2 (A4 rfl rfl rfl (A1 rfl (kn rfl) off_44_3) (A4 rfl rfl rfl (A5 rfl (kn rfl) rfl rfl one_40) (A4 rfl rfl rfl (AR rfl (kn rfl) sle_40) (A4 rfl rfl rfl (A6 rfl (kn rfl) (kn rfl) BN) (A9 rfl rfl rfl rfl rfl (Walk.gd _ rfl rfl rfl (fun h=>A1 rfl (kn rfl) off_44_5) (Walk.gd _ rfl rfl rfl (fun h=>A5 rfl (A0 rfl h) rfl rfl one_9) (Walk.gd _ rfl rfl rfl (fun h=>DB rfl (A0 rfl h) str_9) (Walk.gd _ rfl rfl rfl (fun h=>A1 rfl (kn rfl) off_44_6) (Walk.gd _ rfl rfl rfl (fun h=>A5 rfl (A0 rfl h) rfl rfl one_9) (Walk.gd _ rfl rfl rfl (fun h=>DB rfl (A0 rfl h) str_9) (Walk.gd _ rfl rfl rfl (fun h=>A6 rfl (A0 rfl h) (A0 rfl h) (AK (by first | omega | (dsimp only;omega)))) (Walk.gd _ rfl rfl rfl (fun h=>A6 rfl (A0 rfl h) (kn rfl) AP) (A4 rfl rfl rfl (AO rfl (kn rfl) (fun hb=>A0 rfl hb)) (AC rfl rfl rfl rfl rfl .nil))))))))))))))) ?_
   try refine A3 ?_
   exact A8 rfl rfl (.tmp (kn rfl) (.nil)) (Imp.of_eq (by rw[q2];rfl)) rfl
  have c:=IU c
  rw[IA,if_pos c,c,Bool.true_or,Bool.and_true]at q
  try refine A3 ?_
  refine A2 (A4 rfl rfl rfl (A1 rfl (kn rfl) off_44_5) (A4 rfl rfl rfl (A5 rfl (kn rfl) rfl rfl one_9) (A4 rfl rfl rfl (A1 rfl (kn rfl) off_44_6) (A4 rfl rfl rfl (A5 rfl (kn rfl) rfl rfl one_9) (A4 rfl rfl rfl (A6 rfl (kn rfl) (kn rfl) (MD)) (AC rfl rfl rfl rfl rfl .nil)))))) ?_
  try refine A3 ?_
  exact A8 rfl rfl (.tmp (kn rfl) (.nil)) (Imp.of_eq (by rw[q];rfl)) rfl
 have n2:=of_decide_eq_false c2
 clear c2
 try refine A3 ?_
 refine A2 (A4 rfl rfl rfl (A6 rfl (kn rfl) (kn rfl) AP) (AC rfl rfl rfl rfl rfl .nil)) ?_
 try refine A3 ?_
 refine AB rfl (fun c3=>?_) (fun c3=>?_)
 ·have c3:=of_decide_eq_true c3
  rw[if_neg (by omega),if_neg (by omega),if_neg (by omega),if_pos c3]at q
  try refine A3 ?_
  refine A2 (AC rfl rfl rfl rfl rfl .nil) ?_
  try refine A3 ?_
  refine A2 (A4 rfl rfl rfl (A1 rfl (kn rfl) off_44_7) (A4 rfl rfl rfl (A5 rfl (kn rfl) rfl rfl one_41) (A4 rfl rfl rfl (AR rfl (kn rfl) sle_41) (A9 rfl rfl rfl rfl rfl .nil)))) ?_
  try refine A3 ?_
  refine AX (ι:={ k:Nat // k<=e.steps.length/\C3 IM EM none e.steps=C3 IM EM (DA e.steps k) (e.steps.drop k) })
   (fun k=>[(1,.box 1 0),(5,.is (.int .i64 ((((e.steps.take k.1).filter DG).length:Nat):Int))),(173,.part (.one (.row 30 e.steps.length (e.steps.flatMap CA)))),(174,.is (.int .i64 (e.steps.length:Int))),(175,.is (.int .i64 (k.1:Int)))])
   (fun _=>[(1,⟨44,bcs (ed e)⟩)]) (fun _=>[]) (fun k=>e.steps.length-k.1) ⟨0,by omega,rfl⟩
   (fun K=>AL ⟨s_t,s_t,s_t,s_t,s_t,trivial⟩ ⟨s_b,trivial⟩ trivial) ?_
  rintro⟨k,hk,hw⟩
  dsimp only at hk hw ⊢
  try refine A3 ?_
  refine A2 (A4 rfl rfl rfl (A6 rfl (kn rfl) (kn rfl) AY) .nil) ?_
  try refine A3 ?_
  refine AB rfl (fun h=>?_) (fun h=>?_)
  ·have hlt:k<(e.steps).length:=by have:=of_decide_eq_true h;omega
   obtain⟨x,hx⟩:∃ x,(e.steps)[k]?=some x:=⟨_,List.getElem?_eq_getElem hlt⟩
   obtain⟨p,hp⟩:=EC hlt
   have mx:=List.mem_of_getElem? hx
   have hpo:=EO hp
   try refine A3 ?_
   have hv:=(h3 x mx).2.2.2
   have hfl:((e.steps.take k).filter DG).length<=k:=Nat.le_trans (List.length_filter_le _ _) (by rw[List.length_take];omega)
   refine AI ?_
   refine D9 ?_
   refine AQ (AJ rfl (kn rfl) (kn rfl) (by omega) hx BM sle_41 esz_41 (BR x)) ?_
   refine AQ (AH rfl (kn rfl) agg_67 sz_67) ?_
   refine AW 7 [.is (.int .i64 0),.is (.int .i64 0),.is (.int .i64 0),.is (.int .u64 0),.is (.string ⟨#[]⟩),.is (.slice none 0 0),.is (.string ⟨#[]⟩),.is (.slice none 0 0),.is (.slice none 0 0),.is (.int .i64 0),.is (.int .i64 0),.is (.int .u64 0),.is (.string ⟨#[]⟩),.is (.slice none 0 0),.is (.string ⟨#[]⟩),.is (.slice none 0 0),.is (.slice none 0 0),.is (.int .i64 0),.is (.int .u64 0),.is (.string ⟨#[]⟩),.is (.slice none 0 0),.is (.string ⟨#[]⟩),.is (.slice none 0 0),.is (.slice none 0 0),.is (.slice none 0 0),.is (.bool false),.is (.string ⟨#[]⟩),.is (.string ⟨#[]⟩),.is (.slice none 0 0),.is (.slice none 0 0)] rfl rfl rfl rfl zr_67 (fun w D M V=>⟨rfl,fun j x v h1 h2=>AV _ h1 h2 rfl⟩) rfl rfl rfl rfl ?_
   refine BX ?_
   refine AT rfl rfl rfl (kn rfl) rfl (kn rfl) rfl rfl sz_67 ?_
   refine AM ?_
   try refine A3 ?_
   refine A2 (AC rfl rfl rfl rfl rfl .nil) ?_
   try refine A3 ?_
   refine A2 (A4 rfl rfl rfl (A1 rfl (kn rfl) off_67_0) (A4 rfl rfl rfl (A5 rfl (kn rfl) rfl rfl one_3) .nil)) ?_
   refine IE (ι:=Unit)
    (fun _=>[(1,.box 1 0),(5,.is (.int .i64 ((((e.steps.take k).filter DG).length:Nat):Int))),(6,.is (.int .i64 (k:Int))),(7,.box 7 0),(8,.is (.bool (IM x))),(173,.part (.one (.row 30 e.steps.length (e.steps.flatMap CA)))),(174,.is (.int .i64 (e.steps.length:Int))),(175,.is (.int .i64 (k:Int)))])
    (fun _=>[(1,⟨44,bcs (ed e)⟩),(7,⟨67,bcs (esd x)⟩)]) (fun _=>[]) ?_ (fun _=>?_)
   ·try refine A3 ?_
    refine A2 (A4 rfl rfl rfl (A6 rfl (kn rfl) (kn rfl) AP) (AC rfl rfl rfl rfl rfl .nil)) ?_
    try refine A3 ?_
    refine AB rfl (fun s1=>?_) (fun s1=>?_)
    ·try refine A3 ?_
     refine A2 (A4 rfl rfl rfl (A1 rfl (kn rfl) off_67_1) (A4 rfl rfl rfl (A5 rfl (kn rfl) rfl rfl one_3) (A4 rfl rfl rfl (A6 rfl (kn rfl) (kn rfl) CM) (A9 rfl rfl rfl rfl rfl (Walk.gd _ rfl rfl rfl (fun h=>A1 rfl (kn rfl) off_67_1) (Walk.gd _ rfl rfl rfl (fun h=>A5 rfl (A0 rfl h) rfl rfl one_3) (Walk.gd _ rfl rfl rfl (fun h=>A6 rfl (A0 rfl h) (kn rfl) L9) (A4 rfl rfl rfl (AO rfl (kn rfl) (fun hb=>A0 rfl hb)) (A9 rfl rfl rfl rfl rfl (Walk.gd _ rfl rfl rfl (fun h=>A1 rfl (kn rfl) off_67_2) (Walk.gd _ rfl rfl rfl (fun h=>A7 (ds:=[_,_,_,_,_,_,_]) 7 rfl (A0 rfl h) rfl rfl agg_39 sz_39 rfl) (Walk.gd _ rfl rfl rfl (fun h=>AD rfl (by kernel_rfl) (FH x.1.2.2 hv) ⟨(A0 rfl h),trivial⟩) (A4 rfl rfl rfl (AO rfl (kn rfl) (fun hb=>A0 rfl hb)) (A9 rfl rfl rfl rfl rfl (Walk.gd _ rfl rfl rfl (fun h=>A1 rfl (kn rfl) off_67_3) (Walk.gd _ rfl rfl rfl (fun h=>A7 (ds:=[_,_,_,_,_,_,_,_,_,_,_,_,_,_,_,_,_,_,_,_,_]) 21 rfl (A0 rfl h) rfl rfl agg_44 sz_44 rfl) (Walk.gd _ rfl rfl rfl (fun h=>AD rfl (by kernel_rfl) (MP x.2 (ih x.2 (Ed.kid_s mx))) ⟨(A0 rfl h),trivial⟩) (A4 rfl rfl rfl (AO rfl (kn rfl) (fun hb=>A0 rfl hb)) (AC rfl rfl rfl rfl rfl .nil))))))))))))))))))) ?_
     try refine A3 ?_
     refine CK () (fun K=>AL ⟨s_t,s_t,s_t,s_t,⟨_,rfl,Imp.of_eq (by simp only[FD,if_pos (of_decide_eq_true s1)])⟩,s_t,s_t,s_t,trivial⟩ ⟨s_b,s_b,trivial⟩ trivial)
    have m1:=of_decide_eq_false s1
    try refine A3 ?_
    refine A2 (A4 rfl rfl rfl (A6 rfl (kn rfl) (kn rfl) AP) (AC rfl rfl rfl rfl rfl .nil)) ?_
    try refine A3 ?_
    refine IE (ι:=Unit)
     (fun _=>[(1,.box 1 0),(5,.is (.int .i64 ((((e.steps.take k).filter DG).length:Nat):Int))),(6,.is (.int .i64 (k:Int))),(7,.box 7 0),(8,.is (.bool false)),(181,.is (.int .i64 x.1.1)),(202,.is (.bool (decide (x.1.1=2\/x.1.1=3)))),(173,.part (.one (.row 30 e.steps.length (e.steps.flatMap CA)))),(174,.is (.int .i64 (e.steps.length:Int))),(175,.is (.int .i64 (k:Int)))])
     (fun _=>[(1,⟨44,bcs (ed e)⟩),(7,⟨67,bcs (esd x)⟩)]) (fun _=>[]) ?_ (fun _=>?_)
    ·refine AB rfl (fun s2=>?_) (fun s2=>?_)
     ·try refine A3 ?_
      refine CK () (fun K=>AL ⟨s_t,s_t,s_t,s_t,s_t,s_t,⟨_,rfl,Imp.of_eq (by rw[decide_eq_true (Or.inl (of_decide_eq_true s2)),s2])⟩,s_t,s_t,s_t,trivial⟩ ⟨s_b,s_b,trivial⟩ trivial)
     try refine A3 ?_
     refine A2 (A4 rfl rfl rfl (A6 rfl (kn rfl) (kn rfl) AP) (AC rfl rfl rfl rfl rfl .nil)) ?_
     try refine A3 ?_
     refine CK () (fun K=>AL ⟨s_t,s_t,s_t,s_t,s_t,s_t,⟨_,rfl,Imp.of_eq (by have:=of_decide_eq_false s2;simp[this])⟩,s_t,s_t,s_t,trivial⟩ ⟨s_b,s_b,trivial⟩ trivial)
    try refine A3 ?_
    refine AB rfl (fun s2=>?_) (fun s2=>?_)
    ·try refine A3 ?_
     refine A2 (A4 rfl rfl rfl (A1 rfl (kn rfl) off_67_1) (A4 rfl rfl rfl (A5 rfl (kn rfl) rfl rfl one_3) (A4 rfl rfl rfl (A6 rfl (kn rfl) (kn rfl) AP) (A9 rfl rfl rfl rfl rfl (Walk.gd _ rfl rfl rfl (fun h=>A1 rfl (kn rfl) off_67_2) (Walk.gd _ rfl rfl rfl (fun h=>A7 (ds:=[_,_,_,_,_,_,_]) 7 rfl (A0 rfl h) rfl rfl agg_39 sz_39 rfl) (Walk.gd _ rfl rfl rfl (fun h=>AD rfl (by kernel_rfl) (TD x.1.2.2 hv) ⟨(A0 rfl h),trivial⟩) (A4 rfl rfl rfl (AO rfl (kn rfl) (fun hb=>A0 rfl hb)) (A9 rfl rfl rfl rfl rfl (Walk.gd _ rfl rfl rfl (fun h=>A1 rfl (kn rfl) off_67_3) (Walk.gd _ rfl rfl rfl (fun h=>A7 (ds:=[_,_,_,_,_,_,_,_,_,_,_,_,_,_,_,_,_,_,_,_,_]) 21 rfl (A0 rfl h) rfl rfl agg_44 sz_44 rfl) (Walk.gd _ rfl rfl rfl (fun h=>AD rfl (by kernel_rfl) (MP x.2 (ih x.2 (Ed.kid_s mx))) ⟨(A0 rfl h),trivial⟩) (A4 rfl rfl rfl (AO rfl (kn rfl) (fun hb=>A0 rfl hb)) (AC rfl rfl rfl rfl rfl .nil)))))))))))))) ?_
     try refine A3 ?_
     refine CK () (fun K=>AL ⟨s_t,s_t,s_t,s_t,⟨_,rfl,Imp.of_eq (by simp only[FD,if_neg m1,if_pos (of_decide_eq_true s2)])⟩,s_t,s_t,s_t,trivial⟩ ⟨s_b,s_b,trivial⟩ trivial)
    have m2:=of_decide_eq_false s2
    try refine A3 ?_
    refine A2 (A4 rfl rfl rfl (A6 rfl (kn rfl) (kn rfl) AP) (AC rfl rfl rfl rfl rfl .nil)) ?_
    try refine A3 ?_
    refine AB rfl (fun s4=>?_) (fun s4=>?_)
    ·try refine A3 ?_
     refine A2 (A4 rfl rfl rfl (A1 rfl (kn rfl) off_67_1) (A4 rfl rfl rfl (A5 rfl (kn rfl) rfl rfl one_3) (A4 rfl rfl rfl (A6 rfl (kn rfl) (kn rfl) AP) (A9 rfl rfl rfl rfl rfl (Walk.gd _ rfl rfl rfl (fun h=>A1 rfl (kn rfl) off_67_2) (Walk.gd _ rfl rfl rfl (fun h=>A7 (ds:=[_,_,_,_,_,_,_]) 7 rfl (A0 rfl h) rfl rfl agg_39 sz_39 rfl) (Walk.gd _ rfl rfl rfl (fun h=>AD rfl (by kernel_rfl) (FH x.1.2.2 hv) ⟨(A0 rfl h),trivial⟩) (A4 rfl rfl rfl (AO rfl (kn rfl) (fun hb=>A0 rfl hb)) (A9 rfl rfl rfl rfl rfl (Walk.gd _ rfl rfl rfl (fun h=>A1 rfl (kn rfl) off_67_3) (Walk.gd _ rfl rfl rfl (fun h=>A1 rfl (A0 rfl h) off_44_0) (Walk.gd _ rfl rfl rfl (fun h=>A5 rfl (A0 rfl h) rfl rfl one_3) (Walk.gd _ rfl rfl rfl (fun h=>A6 rfl (A0 rfl h) (kn rfl) BI) (A4 rfl rfl rfl (AO rfl (kn rfl) (fun hb=>A0 rfl hb)) (A9 rfl rfl rfl rfl rfl (Walk.gd _ rfl rfl rfl (fun h=>A1 rfl (kn rfl) off_67_3) (Walk.gd _ rfl rfl rfl (fun h=>A7 (ds:=[_,_,_,_,_,_,_,_,_,_,_,_,_,_,_,_,_,_,_,_,_]) 21 rfl (A0 rfl h) rfl rfl agg_44 sz_44 rfl) (Walk.gd _ rfl rfl rfl (fun h=>AD rfl (by kernel_rfl) ((ih x.2 (Ed.kid_s mx))) ⟨(A0 rfl h),trivial⟩) (A4 rfl rfl rfl (AO rfl (kn rfl) (fun hb=>A0 rfl hb)) (AC rfl rfl rfl rfl rfl .nil)))))))))))))))))))) ?_
     try refine A3 ?_
     refine CK () (fun K=>AL ⟨s_t,s_t,s_t,s_t,⟨_,rfl,Imp.of_eq (by simp only[FD,if_neg m1,if_neg m2,if_pos (of_decide_eq_true s4),Bool.and_assoc])⟩,s_t,s_t,s_t,trivial⟩ ⟨s_b,s_b,trivial⟩ trivial)
    try refine A3 ?_
    refine CK () (fun K=>AL ⟨s_t,s_t,s_t,s_t,⟨_,rfl,Imp.of_eq (by simp only[FD,if_neg m1,if_neg m2,if_neg (of_decide_eq_false s4)])⟩,s_t,s_t,s_t,trivial⟩ ⟨s_b,s_b,trivial⟩ trivial)
   try refine A3 ?_
   refine A2 (A9 rfl rfl rfl rfl rfl (A4 rfl rfl rfl (A6 rfl (kn rfl) (kn rfl) BN) (A9 rfl rfl rfl rfl rfl (Walk.gd _ rfl rfl rfl (fun h=>A1 rfl (kn rfl) off_67_0) (Walk.gd _ rfl rfl rfl (fun h=>A5 rfl (A0 rfl h) rfl rfl one_3) (Walk.gd _ rfl rfl rfl (fun h=>A6 rfl (A0 rfl h) (kn rfl) AP) (Walk.gd _ rfl rfl rfl (fun h=>AN rfl (A0 rfl h)) (Walk.gd _ rfl rfl rfl (fun h=>A1 rfl (kn rfl) off_44_7) (Walk.gd _ rfl rfl rfl (fun h=>A5 rfl (A0 rfl h) rfl rfl one_41) (Walk.gd _ rfl rfl rfl (fun h=>AN rfl (kn rfl)) (Walk.gd _ rfl rfl rfl (fun h=>A6 rfl (A0 rfl h) (kn rfl) (CV (by first | omega | (dsimp only;omega)))) (Walk.gd _ rfl rfl rfl (fun h=>AJ rfl (A0 rfl h) (A0 rfl h) (UK h) hp BM sle_41 esz_41 (BR p)) (Walk.gd _ rfl rfl rfl (fun h=>AA rfl (A0 rfl h) off_67_0) (Walk.gd _ rfl rfl rfl (fun h=>AF rfl (A0 rfl h) one_3) (Walk.gd _ rfl rfl rfl (fun h=>A6 rfl (A0 rfl h) (kn rfl) AP) (Walk.gd _ rfl rfl rfl (fun h=>AO rfl (A0 rfl h) (fun hb=>A0 rfl (gb h hb))) (Walk.gd _ rfl rfl rfl (fun h=>AN rfl (A0 rfl h)) (Walk.gd _ rfl rfl rfl (fun h=>A1 rfl (kn rfl) off_67_0) (Walk.gd _ rfl rfl rfl (fun h=>A5 rfl (A0 rfl h) rfl rfl one_3) (Walk.gd _ rfl rfl rfl (fun h=>A6 rfl (A0 rfl h) (kn rfl) AP) (Walk.gd _ rfl rfl rfl (fun h=>AN rfl (A0 rfl h)) (Walk.gd _ rfl rfl rfl (fun h=>A1 rfl (kn rfl) off_44_7) (Walk.gd _ rfl rfl rfl (fun h=>A5 rfl (A0 rfl h) rfl rfl one_41) (Walk.gd _ rfl rfl rfl (fun h=>AN rfl (kn rfl)) (Walk.gd _ rfl rfl rfl (fun h=>A6 rfl (A0 rfl h) (kn rfl) (CV (by first | omega | (dsimp only;omega)))) (Walk.gd _ rfl rfl rfl (fun h=>AJ rfl (A0 rfl h) (A0 rfl h) (UK (gl h)) hp BM sle_41 esz_41 (BR p)) (Walk.gd _ rfl rfl rfl (fun h=>AA rfl (A0 rfl h) off_67_0) (Walk.gd _ rfl rfl rfl (fun h=>AF rfl (A0 rfl h) one_3) (Walk.gd _ rfl rfl rfl (fun h=>A6 rfl (A0 rfl h) (kn rfl) AP) (Walk.gd _ rfl rfl rfl (fun h=>AO rfl (A0 rfl h) (fun hb=>A0 rfl (gb h hb))) (Walk.gd _ rfl rfl rfl (fun h=>BO rfl (A0 rfl h) (fun hb=>A0 rfl (gb h hb))) (A4 rfl rfl rfl (AO rfl (kn rfl) (fun hb=>A0 rfl hb)) .nil)))))))))))))))))))))))))))))))) ?_
   try refine A3 ?_
   refine AB rfl (fun h1=>?_) (fun h1=>?_)
   ·have h1:decide ((0:Int)<(k:Int))=true/\(decide (x.1.1=1)&&decide (p.1.1=1)||decide (x.1.1=2)&&decide (p.1.1=3))=true:=(Bool.and_eq_true _ _).mp h1
    have q2:BU e=false:=by
     rw[q,CW hx hw (.inr ⟨p,by rw[hpo,if_neg (by have:=of_decide_eq_true h1.1;omega)],by rw[JK,h1.2];rfl⟩),Bool.and_false]
    try refine A3 ?_
    refine A2 (AC rfl rfl rfl rfl rfl .nil) ?_
    try refine A3 ?_
    try refine A3 ?_
    refine A2 (A9 rfl rfl rfl rfl rfl (A4 rfl rfl rfl (BZ rfl (kn rfl)) .nil)) ?_
    try refine A3 ?_
    refine UT ?_
    try refine A3 ?_
    refine A2 (AC rfl rfl rfl rfl rfl .nil) ?_
    try refine A3 ?_
    exact A8 rfl rfl (.tmp (kn rfl) (.nil)) (Imp.of_eq (by rw[q2];rfl)) rfl
   try refine A3 ?_
   refine A2 (A9 rfl rfl rfl rfl rfl (A4 rfl rfl rfl (BZ rfl (kn rfl)) .nil)) ?_
   try refine A3 ?_
   refine AB rfl (fun h5=>?_) (fun h5=>?_)
   ·have q2:BU e=false:=by rw[q,CW hx hw (.inl (IK h5)),Bool.and_false]
    try refine A3 ?_
    refine A2 (AC rfl rfl rfl rfl rfl .nil) ?_
    try refine A3 ?_
    exact A8 rfl rfl (.tmp (kn rfl) (.nil)) (Imp.of_eq (by rw[q2];rfl)) rfl
   have hw2:=DX hx hw (IU h5) (fun p' hp'=>by
    rw[hpo]at hp'
    split at hp'
    ·cases hp'
    ·rename_i hk0
     cases hp'
     rw[JK]
     rw[show decide ((0:Int)<(k:Int))=true from decide_eq_true (by omega),Bool.true_and]at h1
     rw[h1]
     rfl)
   have hfn:=NW (f:=DG) hx
   try refine A3 ?_
   refine A2 (A4 rfl rfl rfl (A1 rfl (kn rfl) off_67_0) (A4 rfl rfl rfl (A5 rfl (kn rfl) rfl rfl one_3) (A4 rfl rfl rfl (A6 rfl (kn rfl) (kn rfl) BI) .nil))) ?_
   try refine A3 ?_
   refine AB rfl (fun h6=>?_) (fun h6=>?_)
   ·try refine A3 ?_
    refine A2 (A9 rfl rfl rfl rfl rfl (A4 rfl rfl rfl (A6 rfl (kn rfl) (kn rfl) (AK (by first | omega | (dsimp only;omega)))) (AC rfl rfl rfl rfl rfl .nil))) ?_
    try refine A3 ?_
    try refine A3 ?_
    refine A2 (A4 rfl rfl rfl (A6 rfl (kn rfl) (kn rfl) (AK (by first | omega | (dsimp only;omega)))) (A9 rfl rfl rfl rfl rfl .nil)) ?_
    try refine A3 ?_
    refine AS ⟨k+1,by omega,hw2⟩ (by dsimp only;omega) (fun K=>AL ⟨s_t,⟨_,rfl,Imp.of_eq (by rw[hfn,if_pos (show DG x=true from h6)];rfl)⟩,s_t,s_t,s_t,trivial⟩ ⟨s_b,trivial⟩ trivial)
   try refine A3 ?_
   refine A2 (A4 rfl rfl rfl (A6 rfl (kn rfl) (kn rfl) (AK (by first | omega | (dsimp only;omega)))) (A9 rfl rfl rfl rfl rfl .nil)) ?_
   try refine A3 ?_
   refine AS ⟨k+1,by omega,hw2⟩ (by dsimp only;omega) (fun K=>AL ⟨s_t,⟨_,rfl,Imp.of_eq (by rw[hfn,if_neg (show ¬ DG x=true by rw[show DG x=false from h6];decide)];rfl)⟩,s_t,s_t,s_t,trivial⟩ ⟨s_b,trivial⟩ trivial)
  obtain rfl:k=e.steps.length:=by have:=of_decide_eq_false h;omega
  rw[F3 (Nat.le_refl _) hw,Bool.and_true,P3]at q
  rw[List.take_length]
  try refine A3 ?_
  refine A2 (A9 rfl rfl rfl rfl rfl (A4 rfl rfl rfl (A6 rfl (kn rfl) (kn rfl) BN) (AC rfl rfl rfl rfl rfl .nil))) ?_
  try refine A3 ?_
  exact A8 rfl rfl (.tmp (kn rfl) (.nil)) (Imp.of_eq (by rw[q];rfl)) rfl
 have n3:=of_decide_eq_false c3
 clear c3
 try refine A3 ?_
 refine A2 (A4 rfl rfl rfl (A6 rfl (kn rfl) (kn rfl) AP) (AC rfl rfl rfl rfl rfl .nil)) ?_
 try refine A3 ?_
 refine AB rfl (fun c4=>?_) (fun c4=>?_)
 ·have c4:=of_decide_eq_true c4
  rw[if_neg (by omega),if_neg (by omega),if_neg (by omega),if_neg (by omega),if_pos c4]at q
  try refine A3 ?_
  refine A2 (A4 rfl rfl rfl (A1 rfl (kn rfl) off_44_8) (A4 rfl rfl rfl (A5 rfl (kn rfl) rfl rfl one_42) (A4 rfl rfl rfl (AR rfl (kn rfl) sle_42) (A9 rfl rfl rfl rfl rfl .nil)))) ?_
  try refine A3 ?_
  refine AX (ι:={ k:Nat // k<=e.keys.length/\C3 SU FW none e.keys=C3 SU FW (DA e.keys k) (e.keys.drop k) /\ ∀ p z:Vl×Ed,DA e.keys k=some p->e.keys[0]?=some z->p.1.kind=z.1.kind })
   (fun k=>[(1,.box 1 0),(284,.part (.one (.row 28 e.keys.length (e.keys.flatMap CU)))),(285,.is (.int .i64 (e.keys.length:Int))),(286,.is (.int .i64 (k.1:Int)))])
   (fun _=>[(1,⟨44,bcs (ed e)⟩)]) (fun _=>[]) (fun k=>e.keys.length-k.1) ⟨0,by omega,rfl,fun _ _ h=>by cases h⟩
   (fun K=>AL ⟨s_t,s_t,s_t,s_t,trivial⟩ ⟨s_b,trivial⟩ trivial) ?_
  rintro⟨k,hk,hw,hz⟩
  dsimp only at hk hw hz ⊢
  try refine A3 ?_
  refine A2 (A4 rfl rfl rfl (A6 rfl (kn rfl) (kn rfl) AY) .nil) ?_
  try refine A3 ?_
  refine AB rfl (fun h=>?_) (fun h=>?_)
  ·have hlt:k<(e.keys).length:=by have:=of_decide_eq_true h;omega
   obtain⟨x,hx⟩:∃ x,(e.keys)[k]?=some x:=⟨_,List.getElem?_eq_getElem hlt⟩
   obtain⟨p,hp⟩:=EC hlt
   have mx:=List.mem_of_getElem? hx
   have hpo:=EO hp
   try refine A3 ?_
   obtain⟨z,h0⟩:∃ z,e.keys[0]?=some z:=⟨_,List.getElem?_eq_getElem (by omega)⟩
   have mp:=List.mem_of_getElem? hp
   refine AI ?_
   refine D9 ?_
   refine AQ (AJ rfl (kn rfl) (kn rfl) (by omega) hx BK sle_42 esz_42 (BS x)) ?_
   refine AQ (AH rfl (kn rfl) agg_63 sz_63) ?_
   refine AW 10 [.is (.int .i64 0),.is (.int .u64 0),.is (.string ⟨#[]⟩),.is (.slice none 0 0),.is (.string ⟨#[]⟩),.is (.slice none 0 0),.is (.slice none 0 0),.is (.int .i64 0),.is (.int .i64 0),.is (.int .u64 0),.is (.string ⟨#[]⟩),.is (.slice none 0 0),.is (.string ⟨#[]⟩),.is (.slice none 0 0),.is (.slice none 0 0),.is (.int .i64 0),.is (.int .u64 0),.is (.string ⟨#[]⟩),.is (.slice none 0 0),.is (.string ⟨#[]⟩),.is (.slice none 0 0),.is (.slice none 0 0),.is (.slice none 0 0),.is (.bool false),.is (.string ⟨#[]⟩),.is (.string ⟨#[]⟩),.is (.slice none 0 0),.is (.slice none 0 0)] rfl rfl rfl rfl zr_63 (fun w D M V=>⟨rfl,fun j x v h1 h2=>AV _ h1 h2 rfl⟩) rfl rfl rfl rfl ?_
   refine BX ?_
   refine AT rfl rfl rfl (kn rfl) rfl (kn rfl) rfl rfl sz_63 ?_
   refine AM ?_
   try refine A3 ?_
   refine BD BF (by kernel_rfl) (A4 rfl rfl rfl (A1 rfl (kn rfl) off_63_0) (A4 rfl rfl rfl (A1 rfl (kn rfl) off_39_0) (A4 rfl rfl rfl (A5 rfl (kn rfl) rfl rfl one_3) (A4 rfl rfl rfl (A6 rfl (kn rfl) (kn rfl) BI) (A9 rfl rfl rfl rfl rfl (Walk.gd _ rfl rfl rfl (fun h=>A1 rfl (kn rfl) off_63_0) (Walk.gd _ rfl rfl rfl (fun h=>A1 rfl (A0 rfl h) off_39_0) (Walk.gd _ rfl rfl rfl (fun h=>A5 rfl (A0 rfl h) rfl rfl one_3) (Walk.gd _ rfl rfl rfl (fun h=>A6 rfl (A0 rfl h) (kn rfl) BI) (A4 rfl rfl rfl (AO rfl (kn rfl) (fun hb=>A0 rfl hb)) (A9 rfl rfl rfl rfl rfl (Walk.gd _ rfl rfl rfl (fun h=>A1 rfl (kn rfl) off_63_0) (Walk.gd _ rfl rfl rfl (fun h=>A1 rfl (A0 rfl h) off_39_0) (Walk.gd _ rfl rfl rfl (fun h=>A5 rfl (A0 rfl h) rfl rfl one_3) (Walk.gd _ rfl rfl rfl (fun h=>A1 rfl (kn rfl) off_44_8) (Walk.gd _ rfl rfl rfl (fun h=>A5 rfl (A0 rfl h) rfl rfl one_42) (Walk.gd _ rfl rfl rfl (fun h=>AJ rfl (A0 rfl h) (kn rfl) (by omega) h0 BK sle_42 esz_42 (BS z)) (Walk.gd _ rfl rfl rfl (fun h=>AA rfl (A0 rfl h) off_63_0) (Walk.gd _ rfl rfl rfl (fun h=>AA rfl (A0 rfl h) off_39_0) (Walk.gd _ rfl rfl rfl (fun h=>AF rfl (A0 rfl h) one_3) (Walk.gd _ rfl rfl rfl (fun h=>A6 rfl (A0 rfl h) (A0 rfl h) BI) (A4 rfl rfl rfl (BO rfl (kn rfl) (fun hb=>A0 rfl hb)) (A9 rfl rfl rfl rfl rfl (Walk.gd _ rfl rfl rfl (fun h=>A1 rfl (kn rfl) off_63_0) (Walk.gd _ rfl rfl rfl (fun h=>A7 (ds:=[_,_,_,_,_,_,_]) 7 rfl (A0 rfl h) rfl rfl agg_39 sz_39 rfl) (Walk.gd _ rfl rfl rfl (fun h=>AD rfl (by kernel_rfl) (FV x.1 (h4 x mx).fine (h4 x mx).tx ((h4 x mx).le (by decide))) ⟨(A0 rfl h),trivial⟩) (Walk.gd _ rfl rfl rfl (fun h=>BZ rfl (A0 rfl h)) (A4 rfl rfl rfl (BO rfl (kn rfl) (fun hb=>A0 rfl hb)) (A9 rfl rfl rfl rfl rfl (Walk.gd _ rfl rfl rfl (fun h=>A1 rfl (kn rfl) off_63_1) (Walk.gd _ rfl rfl rfl (fun h=>A1 rfl (A0 rfl h) off_44_0) (Walk.gd _ rfl rfl rfl (fun h=>A5 rfl (A0 rfl h) rfl rfl one_3) (Walk.gd _ rfl rfl rfl (fun h=>A6 rfl (A0 rfl h) (kn rfl) AP) (A4 rfl rfl rfl (BO rfl (kn rfl) (fun hb=>A0 rfl hb)) (A9 rfl rfl rfl rfl rfl (Walk.gd _ rfl rfl rfl (fun h=>A1 rfl (kn rfl) off_63_1) (Walk.gd _ rfl rfl rfl (fun h=>A7 (ds:=[_,_,_,_,_,_,_,_,_,_,_,_,_,_,_,_,_,_,_,_,_]) 21 rfl (A0 rfl h) rfl rfl agg_44 sz_44 rfl) (Walk.gd _ rfl rfl rfl (fun h=>AD rfl (by kernel_rfl) ((ih x.2 (Ed.kid_k mx))) ⟨(A0 rfl h),trivial⟩) (Walk.gd _ rfl rfl rfl (fun h=>BZ rfl (A0 rfl h)) (A4 rfl rfl rfl (BO rfl (kn rfl) (fun hb=>A0 rfl hb)) .nil)))))))))))))))))))))))))))))))))))))))) ?_
   try refine A3 ?_
   refine AB rfl (fun h1=>?_) (fun h1=>?_)
   ·have q2:BU e=false:=by
     rw[q,CW hx hw,Bool.and_false]
     simp only[Bool.or_eq_true,Bool.and_eq_true,Bool.not_eq_true',decide_eq_true_eq,decide_eq_false_iff_not]at h1
     rcases h1 with(((h1 | h1) | h1) | h1) | h1
     ·exact .inl (by simp only[HB,decide_eq_false h1.1,decide_eq_false h1.2];rfl)
     ·refine .inr ⟨p,?_,?_⟩
      ·rw[hpo,if_neg]
       intro hk0
       subst hk0
       rw[hx]at h0
       cases h0
       exact h1 rfl
      ·have hk0:k≠0:=by
        intro hk0
        subst hk0
        rw[hx]at h0
        cases h0
        exact h1 rfl
       have:=hz p z (by rw[hpo,if_neg hk0]) h0
       simp only[FW]
       rw[decide_eq_false (by omega)]
       rfl
     ·exact .inl (by simp[HB,h1])
     ·exact .inl (by simp[HB,h1])
     ·exact .inl (by simp[HB,h1])
    try refine A3 ?_
    refine A2 (AC rfl rfl rfl rfl rfl .nil) ?_
    try refine A3 ?_
    exact A8 rfl rfl (.tmp (kn rfl) (.nil)) (Imp.of_eq (by rw[q2];rfl)) rfl
   simp only[Bool.or_eq_false_iff,Bool.and_eq_false_iff,Bool.not_eq_false',decide_eq_true_eq,decide_eq_false_iff_not]at h1
   obtain⟨⟨⟨⟨g1,g2⟩,g3⟩,g4⟩,g5⟩:=h1
   try refine A3 ?_
   refine BD BF (by kernel_rfl) (A9 rfl rfl rfl rfl rfl (A4 rfl rfl rfl (A6 rfl (kn rfl) (kn rfl) BN) (A9 rfl rfl rfl rfl rfl (Walk.gd _ rfl rfl rfl (fun h=>A1 rfl (kn rfl) off_44_8) (Walk.gd _ rfl rfl rfl (fun h=>A5 rfl (A0 rfl h) rfl rfl one_42) (Walk.gd _ rfl rfl rfl (fun h=>AN rfl (kn rfl)) (Walk.gd _ rfl rfl rfl (fun h=>A6 rfl (A0 rfl h) (kn rfl) (CV (by first | omega | (dsimp only;omega)))) (Walk.gd _ rfl rfl rfl (fun h=>AJ rfl (A0 rfl h) (A0 rfl h) (hz_1 h) hp BK sle_42 esz_42 (BS p)) (Walk.gd _ rfl rfl rfl (fun h=>AA rfl (A0 rfl h) off_63_0) (Walk.gd _ rfl rfl rfl (fun h=>B2 (vd p.1) 7 rfl (A0 rfl h) agg_39 sz_39 rfl rfl) (Walk.gd _ rfl rfl rfl (fun h=>A1 rfl (kn rfl) off_63_0) (Walk.gd _ rfl rfl rfl (fun h=>A7 (ds:=[_,_,_,_,_,_,_]) 7 rfl (A0 rfl h) rfl rfl agg_39 sz_39 rfl) (Walk.gd _ rfl rfl rfl (fun h=>AD rfl (by kernel_rfl) (OT p.1 (h4 p mp).fine x.1 (h4 x mx).fine) ⟨(A0 rfl h),⟨(A0 rfl h),trivial⟩⟩) (Walk.gd _ rfl rfl rfl (fun h=>A6 rfl (A0 rfl h) (kn rfl) CM) (A4 rfl rfl rfl (AO rfl (kn rfl) (fun hb=>A0 rfl hb)) .nil))))))))))))))) ?_
   try refine A3 ?_
   refine AB rfl (fun h5=>?_) (fun h5=>?_)
   ·simp only[Bool.and_eq_true,decide_eq_true_eq]at h5
    have q2:BU e=false:=by
     rw[q,CW hx hw (.inr ⟨p,by rw[hpo,if_neg (by omega)],by simp only[FW];rw[decide_eq_false (show ¬ vcmp p.1 x.1<0 by omega),Bool.and_false]⟩),Bool.and_false]
    try refine A3 ?_
    refine A2 (AC rfl rfl rfl rfl rfl .nil) ?_
    try refine A3 ?_
    exact A8 rfl rfl (.tmp (kn rfl) (.nil)) (Imp.of_eq (by rw[q2];rfl)) rfl
   simp only[Bool.and_eq_false_iff,decide_eq_false_iff_not]at h5
   have hw2:=DX hx hw (by
    simp only[HB,g3,g5,decide_eq_false g4]
    rcases g1 with g1 | g1<;>simp[g1]) (fun p' hp'=>by
    have hz1:=hz p' z hp' h0
    rw[hpo]at hp'
    split at hp'
    ·cases hp'
    ·cases hp'
     simp only[FW]
     rw[decide_eq_true (by omega),decide_eq_true (by omega)]
     rfl)
   try refine A3 ?_
   refine A2 (A4 rfl rfl rfl (A6 rfl (kn rfl) (kn rfl) (AK (by first | omega | (dsimp only;omega)))) (A9 rfl rfl rfl rfl rfl .nil)) ?_
   try refine A3 ?_
   refine AS ⟨k+1,by omega,hw2,fun p' z' hp' hz'=>by rw[KM hx]at hp';rw[h0]at hz';cases hp';cases hz';exact g2⟩ (by dsimp only;omega) (fun K=>AL ⟨s_t,s_t,s_t,s_t,trivial⟩ ⟨s_b,trivial⟩ trivial)
  rw[F3 (by have:=of_decide_eq_false h;omega) hw,Bool.and_true]at q
  have q2:BU e=decide ((0:Int)<(e.keys.length:Int)):=by
   rw[q]
   cases e.keys<;>simp
  try refine A3 ?_
  refine A2 (A4 rfl rfl rfl (A1 rfl (kn rfl) off_44_8) (A4 rfl rfl rfl (A5 rfl (kn rfl) rfl rfl one_42) (A4 rfl rfl rfl (AR rfl (kn rfl) sle_42) (A4 rfl rfl rfl (A6 rfl (kn rfl) (kn rfl) BN) (AC rfl rfl rfl rfl rfl .nil))))) ?_
  try refine A3 ?_
  exact A8 rfl rfl (.tmp (kn rfl) (.nil)) (Imp.of_eq (by rw[q2];rfl)) rfl
 have n4:=of_decide_eq_false c4
 rw[if_pos (by omega)]at q
 try refine A3 ?_
 refine A2 (AC rfl rfl rfl rfl rfl .nil) ?_
 try refine A3 ?_
 exact A8 rfl rfl (.tmp (kn rfl) (.nil)) (Imp.of_eq (by rw[q];rfl)) rfl
theorem Q1(e:Ed):e.Sm->I6 e:=Ed.kids_ind (P:=fun e=>e.Sm->I6 e) (fun e ih h=>N8 e h fun x hx=>ih x hx (h.kid hx)) e
end Go.Proofs.YtojdpgeeajaojaaGreat
