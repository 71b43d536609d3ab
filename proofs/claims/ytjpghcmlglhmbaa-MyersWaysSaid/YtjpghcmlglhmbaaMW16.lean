/- Part 16. Conditions: as each theorem says. -/
import Derived.Test.YtjpghcmlglhmbaaMW15
import Derived.Test.YtjpghcmlglhmbaaProg
import Derived.ChangeArms
import Derived.Deep.Slices
import Derived.Deep.Fields
import Derived.ChangeSame
import Derived.ProofKit
import Derived.OpenShut
import Derived.Carry
import Derived.SizedLaws
set_option maxRecDepth 100000
namespace Go.Proofs.Ytjpghcmlglhmbaa
open Go.RowKit
theorem LK{k c:Int}(hc:c<=200):edR (k,c)=if((decide (k=2)||decide (k=3))&&decide (0<c))=true then c else 0:=by
 unfold edR B9
 simp only[Bool.and_eq_true,Bool.or_eq_true,Bool.not_eq_true',decide_eq_true_eq,decide_eq_false_iff_not]
 by_cases h:(k=2\/k=3)/\0<c
 ·rw[if_pos h,if_pos (by omega)]
 ·rw[if_neg h,if_neg (by omega)]
theorem JB{l:List Rn}(hl:l.length<=1000)(hf:MD l):(DC l).length<=200000 /\ ∀ p∈DC l,p.2<=200000:=by
 have h1:=GW (n:=200) l ([],0,0) hf
 have h0:(fl ([],0,0)).length=0:=rfl
 have h2:=EA (fl (td ([],0,0) l))
 refine⟨?_,fun p hp=>?_⟩
 ·show(AW (fl (td ([],0,0) l))).length<=_
  omega
 ·have:=(DI hp).2.1
  omega
set_option maxHeartbeats 1000000 in
theorem LG(l:List Rn)(a b:List Int)(hln:l.length<=8796093022208):EF Try.prog [] 5 [.one (BH l),.one (zsD a),.one (zsD b)] (.part (bP true)):=by
 refine AL 100 Try.func5 rfl rfl rfl fun w D=>?_
 try refine A1 ?_
 refine A0 (A6 rfl rfl rfl rfl rfl .nil) ?_
 try refine A1 ?_
 refine A0 (A3 rfl rfl rfl (AU rfl (by kernel_rfl) (JU) trivial) (A3 rfl rfl rfl (CX rfl (kn rfl)) .nil)) ?_
 try refine A1 ?_
 refine N2 ?_
 by_cases hf:MD l
 case neg=>
  have hof:=O5 l hln hf
  try refine A1 ?_
  refine A0 (A5 rfl rfl rfl rfl rfl (A3 rfl rfl rfl (AU rfl (by kernel_rfl) (hof) ⟨(kn rfl),trivial⟩) (A5 rfl rfl rfl rfl rfl (A3 rfl rfl rfl (AZ rfl (kn rfl) rfl) (A3 rfl rfl rfl (AZ rfl (kn rfl) rfl) (A6 rfl rfl rfl rfl rfl (A6 rfl rfl rfl rfl rfl .nil))))))) ?_
  try refine A1 ?_
  refine A0 (A5 rfl rfl rfl rfl rfl (A3 rfl rfl rfl (CX rfl (kn rfl)) (A5 rfl rfl rfl rfl rfl (Walk.gd _ rfl rfl rfl (fun h=>AA rfl (kn rfl)) (Walk.gd _ rfl rfl rfl (fun h=>AN rfl (A2 rfl h) sle_22) (Walk.gd _ rfl rfl rfl (fun h=>A4 rfl (A2 rfl h) (kn rfl) CE) (A3 rfl rfl rfl (DU rfl (kn rfl) (fun hb=>A2 rfl hb)) (A5 rfl rfl rfl rfl rfl (Walk.gd _ rfl rfl rfl (fun h=>AA rfl (kn rfl)) (Walk.gd _ rfl rfl rfl (fun h=>AN rfl (A2 rfl h) sle_22) (Walk.gd _ rfl rfl rfl (fun h=>A4 rfl (A2 rfl h) (kn rfl) CE) (A3 rfl rfl rfl (DU rfl (kn rfl) (fun hb=>A2 rfl hb)) .nil)))))))))))) ?_
  try refine A1 ?_
  refine J9 ?_
  try refine A1 ?_
  refine A0 (A6 rfl rfl rfl rfl rfl .nil) ?_
  try refine A1 ?_
  exact AB rfl rfl (.tmp (kn rfl) (.nil)) (Imp.refl _) rfl
 have hof:=N3 l hln hf
 try refine A1 ?_
 refine A0 (A5 rfl rfl rfl rfl rfl (A3 rfl rfl rfl (AU rfl (by kernel_rfl) (hof) ⟨(kn rfl),trivial⟩) (A5 rfl rfl rfl rfl rfl (A3 rfl rfl rfl (AZ rfl (kn rfl) rfl) (A3 rfl rfl rfl (AZ rfl (kn rfl) rfl) (A6 rfl rfl rfl rfl rfl (A6 rfl rfl rfl rfl rfl .nil))))))) ?_
 try refine A1 ?_
 refine A0 (A5 rfl rfl rfl rfl rfl (A3 rfl rfl rfl (CX rfl (kn rfl)) (A5 rfl rfl rfl rfl rfl (Walk.gd _ rfl rfl rfl (fun h=>AA rfl (kn rfl)) (Walk.gd _ rfl rfl rfl (fun h=>AN rfl (A2 rfl h) sle_22) (Walk.gd _ rfl rfl rfl (fun h=>A4 rfl (A2 rfl h) (kn rfl) CE) (A3 rfl rfl rfl (DU rfl (kn rfl) (fun hb=>A2 rfl hb)) (A5 rfl rfl rfl rfl rfl (Walk.gd _ rfl rfl rfl (fun h=>AA rfl (kn rfl)) (Walk.gd _ rfl rfl rfl (fun h=>AN rfl (A2 rfl h) sle_22) (Walk.gd _ rfl rfl rfl (fun h=>A4 rfl (A2 rfl h) (kn rfl) CE) (A3 rfl rfl rfl (DU rfl (kn rfl) (fun hb=>A2 rfl hb)) .nil)))))))))))) ?_
 try refine A1 ?_
 refine AC rfl (fun h=>?_) (fun h=>?_)
 ·try refine A1 ?_
  refine A0 (A6 rfl rfl rfl rfl rfl .nil) ?_
  try refine A1 ?_
  exact AB rfl rfl (.tmp (kn rfl) (.nil)) (Imp.refl _) rfl
 rw[Bool.or_eq_false_iff,Bool.or_eq_false_iff]at h
 have hl40:l.length<=40:=by have:=h.1.1;simp only[Bool.not_eq_false',decide_eq_true_eq]at this;omega
 have ha:=gt_60 h.1.2
 have hb:=gt_60 h.2
 clear h
 have htr:=HS l (by omega) hf
 have htp:=LX l (by omega) hf
 obtain⟨htl,htc⟩:=JB (by omega) hf
 have hs1:=GL (DC l) (DC l) (by omega) (by omega)
 have hs2:=GL l l (by omega) (by omega)
 rw[decide_eq_true rfl]at hs1 hs2
 have hed:=JV l (by omega)
 have hw1:=G4 l a b (by omega) (by omega) (by omega) fun p hp=>by have:=hf p hp;omega
 have hw2:=G4 (DC l) a b (by omega) (by omega) (by omega) fun p hp=>by have:=htc p hp;omega
 have hwp:=MY l a b (by omega) (by omega) (by omega)
 try refine A1 ?_
 refine A0 (A6 rfl rfl rfl rfl rfl .nil) ?_
 try refine A1 ?_
 refine A0 (A5 rfl rfl rfl rfl rfl (A3 rfl rfl rfl (AN rfl (kn rfl) sle_30) (A5 rfl rfl rfl rfl rfl .nil))) ?_
 try refine A1 ?_
 refine BC (ι:={ i:Nat // i<=l.length })
  (fun i=>[(0,.part (.one (BH l))),(1,.part (.one (zsD a))),(2,.part (.one (zsD b))),(7,.part (.one (BH l))),(9,zI (E8 edR (l.take i.1))),(34,.part (.one (BH l))),(35,zI (l.length:Int)),(36,zI (i.1:Int))])
  (fun _=>[]) (fun _=>[]) (fun i=>l.length-i.1) ⟨0,Nat.zero_le _⟩
  (fun K=>AH ⟨s_t,s_t,s_t,s_t,s_t,s_t,s_t,s_t,trivial⟩ trivial trivial) ?_
 rintro⟨i,hi⟩
 dsimp only at hi ⊢
 have hbd:=I9 l i
 try refine A1 ?_
 refine A0 (A3 rfl rfl rfl (A4 rfl (kn rfl) (kn rfl) BU) .nil) ?_
 try refine A1 ?_
 refine AC rfl (fun h=>?_) (fun h=>?_)
 ·have hlt:=ltd h
  obtain⟨⟨k,c⟩,hp⟩:∃ p,l[i]?=some p:=⟨_,List.getElem?_eq_getElem hlt⟩
  have hst:=FI (f:=edR) hp
  have hcc:c<=200:=hf _ (List.mem_of_getElem? hp)
  rw[LK hcc]at hst
  try refine A1 ?_
  refine AF ?_
  refine AK (AR rfl (kn rfl) (kn rfl) (by omega) hp BO sle_30 esz_30 rfl) ?_
  refine AK (B6 rfl (kn rfl) agg_39 sz_39) ?_
  refine CF 11 [.is (.int .i64 0),.is (.int .i64 0)] rfl rfl rfl rfl zr_39 (fun w D M V=>⟨rfl,fun j x v h1 h2=>CH _ h1 h2 rfl⟩) rfl rfl rfl rfl ?_
  refine BV rfl rfl rfl (kn rfl) rfl (kn rfl) rfl rfl sz_39 ?_
  refine AD ?_
  try refine A1 ?_
  refine A0 (A3 rfl rfl rfl (A8 rfl (kn rfl) off_39_0) (A3 rfl rfl rfl (A7 rfl (kn rfl) rfl rfl one_3) (A3 rfl rfl rfl (A4 rfl (kn rfl) (kn rfl) B2) (A5 rfl rfl rfl rfl rfl (Walk.gd _ rfl rfl rfl (fun h=>A8 rfl (kn rfl) off_39_0) (Walk.gd _ rfl rfl rfl (fun h=>A7 rfl (A2 rfl h) rfl rfl one_3) (Walk.gd _ rfl rfl rfl (fun h=>A4 rfl (A2 rfl h) (kn rfl) B2) (A3 rfl rfl rfl (DU rfl (kn rfl) (fun hb=>A2 rfl hb)) (A5 rfl rfl rfl rfl rfl (Walk.gd _ rfl rfl rfl (fun h=>A8 rfl (kn rfl) off_39_1) (Walk.gd _ rfl rfl rfl (fun h=>A7 rfl (A2 rfl h) rfl rfl one_3) (Walk.gd _ rfl rfl rfl (fun h=>A4 rfl (A2 rfl h) (kn rfl) CE) (A3 rfl rfl rfl (BB rfl (kn rfl) (fun hb=>A2 rfl hb)) .nil))))))))))))) ?_
  try refine A1 ?_
  refine AC rfl (fun h1=>?_) (fun h1=>?_)
  ·have hc1:=of_decide_eq_true (gr h1)
   rw[if_pos h1]at hst
   try refine A1 ?_
   refine A0 (A5 rfl rfl rfl rfl rfl (A3 rfl rfl rfl (A8 rfl (kn rfl) off_39_1) (A3 rfl rfl rfl (A7 rfl (kn rfl) rfl rfl one_3) (A3 rfl rfl rfl (A4 rfl (kn rfl) (kn rfl) (AE (by first | omega | (dsimp only;omega)))) (A6 rfl rfl rfl rfl rfl .nil))))) ?_
   try refine A1 ?_
   refine A0 (A3 rfl rfl rfl (A4 rfl (kn rfl) (kn rfl) (AE (by first | omega | (dsimp only;omega)))) (A5 rfl rfl rfl rfl rfl .nil)) ?_
   try refine A1 ?_
   refine AO ⟨i+1,hlt⟩ (by dsimp only;omega) (fun K=>AH ⟨s_t,s_t,s_t,s_t,s_z rfl (by dsimp only;rw[hst]),s_t,s_t,s_t,trivial⟩ trivial trivial)
  ·rw[if_neg (by rw[h1];decide)]at hst
   try refine A1 ?_
   refine A0 (A3 rfl rfl rfl (A4 rfl (kn rfl) (kn rfl) (AE (by first | omega | (dsimp only;omega)))) (A5 rfl rfl rfl rfl rfl .nil)) ?_
   try refine A1 ?_
   refine AO ⟨i+1,hlt⟩ (by dsimp only;omega) (fun K=>AH ⟨s_t,s_t,s_t,s_t,s_z rfl (by dsimp only;rw[hst,Int.add_zero]),s_t,s_t,s_t,trivial⟩ trivial trivial)
 rw[List.take_of_length_le (ltf h)]
 try refine A1 ?_
 refine A0 (A5 rfl rfl rfl rfl rfl (A3 rfl rfl rfl (AU rfl (by kernel_rfl) (htr) ⟨(kn rfl),trivial⟩) (A6 rfl rfl rfl rfl rfl .nil))) ?_
 try refine A1 ?_
 refine AF ?_
 refine D4 1000 rfl rfl rfl rfl sl_28 ap_28 rfl rfl ?_
 refine AM ?_
 refine B4 rfl rfl rfl rfl (kn rfl) rfl (kn rfl) sl_28 ap_28 rfl (NB _) (by first | omega | (dsimp only;omega)) (by first | omega | (dsimp only;omega)) ?_
 refine CC (Nat.zero_add _) (List.nil_append _) ?_
 refine AJ 62 1000 rfl rfl rfl ?_
 refine B7 ?_
 refine AD ?_
 try refine A1 ?_
 refine A0 (A5 rfl rfl rfl rfl rfl (A3 rfl rfl rfl (AU rfl (by kernel_rfl) (htp) ⟨(kn rfl),trivial⟩) (A5 rfl rfl rfl rfl rfl (A3 rfl rfl rfl (AU rfl (by kernel_rfl) (hs1) ⟨(kn rfl),⟨(kn rfl),trivial⟩⟩) (A3 rfl rfl rfl (CX rfl (kn rfl)) (A5 rfl rfl rfl rfl rfl (Walk.gd _ rfl rfl rfl (fun h=>AA rfl (kn rfl)) (Walk.gd _ rfl rfl rfl (fun h=>AA rfl (kn rfl)) (Walk.gd _ rfl rfl rfl (fun h=>AU rfl (by kernel_rfl) (hs2) ⟨(A2 rfl h),⟨(A2 rfl h),trivial⟩⟩) (Walk.gd _ rfl rfl rfl (fun h=>CX rfl (A2 rfl h)) (A3 rfl rfl rfl (DU rfl (kn rfl) (fun hb=>A2 rfl hb)) (A5 rfl rfl rfl rfl rfl (Walk.gd _ rfl rfl rfl (fun h=>AA rfl (kn rfl)) (Walk.gd _ rfl rfl rfl (fun h=>AU rfl (by kernel_rfl) (hed) ⟨(A2 rfl h),trivial⟩) (Walk.gd _ rfl rfl rfl (fun h=>AA rfl (kn rfl)) (Walk.gd _ rfl rfl rfl (fun h=>A4 rfl (A2 rfl h) (A2 rfl h) DG) (A3 rfl rfl rfl (DU rfl (kn rfl) (fun hb=>A2 rfl hb)) .nil))))))))))))))))) ?_
 try refine A1 ?_
 refine AC rfl (fun h1=>absurd h1 (by simp)) (fun _=>?_)
 try refine A1 ?_
 refine A0 (A5 rfl rfl rfl rfl rfl (A5 rfl rfl rfl rfl rfl (A5 rfl rfl rfl rfl rfl (A3 rfl rfl rfl (AU rfl (by kernel_rfl) (hw1) ⟨(kn rfl),⟨(kn rfl),⟨(kn rfl),trivial⟩⟩⟩) (A6 rfl rfl rfl rfl rfl .nil))))) ?_
 try refine A1 ?_
 refine A0 (A5 rfl rfl rfl rfl rfl (A5 rfl rfl rfl rfl rfl (A5 rfl rfl rfl rfl rfl (A3 rfl rfl rfl (AU rfl (by kernel_rfl) (hwp) ⟨(kn rfl),⟨(kn rfl),⟨(kn rfl),trivial⟩⟩⟩) (A5 rfl rfl rfl rfl rfl (A3 rfl rfl rfl (A4 rfl (kn rfl) (kn rfl) (OG bool_4)) (A5 rfl rfl rfl rfl rfl (Walk.gd _ rfl rfl rfl (fun h=>AA rfl (kn rfl)) (Walk.gd _ rfl rfl rfl (fun h=>CX rfl (A2 rfl h)) (Walk.gd _ rfl rfl rfl (fun h=>AA rfl (A2 rfl h)) (Walk.gd _ rfl rfl rfl (fun h=>AA rfl (kn rfl)) (Walk.gd _ rfl rfl rfl (fun h=>AA rfl (kn rfl)) (Walk.gd _ rfl rfl rfl (fun h=>AA rfl (kn rfl)) (Walk.gd _ rfl rfl rfl (fun h=>AU rfl (by kernel_rfl) (hw2) ⟨(A2 rfl h),⟨(A2 rfl h),⟨(A2 rfl h),trivial⟩⟩⟩) (Walk.gd _ rfl rfl rfl (fun h=>DU rfl (A2 rfl h) (fun hb=>A2 rfl (gb h hb))) (A3 rfl rfl rfl (BB rfl (kn rfl) (fun hb=>A2 rfl hb)) (A6 rfl rfl rfl rfl rfl .nil))))))))))))))))) ?_
 try refine A1 ?_
 have hfin:((C8 l a b==C8 l a b)&&(!C8 l a b||C8 (DC l) a b))=true:=by
  cases hw:C8 l a b with
  | false=>rfl
  | true=>rw[L7 hw];rfl
 exact AB rfl rfl (.tmp (kn rfl) (.nil)) (CM hfin) rfl
section
theorem K5{α:Type}{f:α->List Dat}{k:Nat}(hk:∀ a,(f a).length=k){qs:List α}{i r:Nat}{a:α}(ha:qs[i]?=some a)(hr:r<k):(qs.flatMap f)[i*k+r]?=(f a)[r]?:=by
 have h:=EJ hk qs i a ha
 rw[<- h,List.getElem?_take,if_pos hr,List.getElem?_drop]
def Old(w:World):Nat->Prop:=fun g=>g<w.heap.size
section
variable{H:Type}{enc:TypeId×Value->H}{P:Program}{w:World}{base:Nat}{spare:Nat->Bool}{held:Bool}{fuel:Nat}{t:TypeId}{cs:List Value}{x:DataW H×List MemPlace}
theorem H8{e:TypeId}(ht:P.underlying t=some (.slice e)){k:Nat}(hk0:0<k)(hke:P.cellsOf e=k){α:Type}[Inhabited α]{f:α->List Dat}(hk:∀ a,(f a).length=k){F:α->Prop}
  (elem:∀ n,n<fuel -> ∀ cs x,DataW.trod enc P w base spare held n e cs=some x -> ∃ a,Fits w (Old w) (f a) cs/\F a) (h:DataW.trod enc P w base spare held fuel t cs=some x):
  ∃ p,∃ qs:List α,∃ c,cs=[.slice p qs.length c]/\Lies w (Old w) (.row k qs.length (qs.flatMap f)) (.slice p qs.length c)/\(∀ a∈qs,F a)/\qs.length<=c/\c<=maxLen:=by
 rcases DataW.trod_slice ht h with⟨rfl,_⟩ | ⟨ad,len,cap,elems,rest,n,rfl,rfl,_,hb,hl,hm,hlen,hel,_,_⟩
 ·exact⟨none,[],0,rfl,.none _ _ _,by simp,by simp,by simp⟩
 ·rw[hke]at hel
  have hone:∀ i,i<len -> ∃ y:α×List Value,Fits w (Old w) (f y.1) y.2/\F y.1 /\ ∀ j,j<k->w.cell? (ad.add (i*k+j))=y.2[j]?:=fun i hi=>by
   have key:=hel i hi
   rw[List.getElem?_eq_getElem (by omega)]at key
   obtain⟨cs',h1,h2⟩:=Option.bind_eq_some_iff.1 key
   obtain⟨a,hF,hA⟩:=elem n (by omega) cs' _ h2
   obtain⟨_,_,hat⟩:=World.cells?_some h1
   exact⟨(a,cs'),hF,hA,fun j hj=>by rw[<- Go.Deep.add_add];exact hat j hj⟩
  obtain⟨Y,hY⟩:=Go.Deep.choose_lt (α:=α×List Value) (p:=fun i y=>Fits w (Old w) (f y.1) y.2/\F y.1 /\ ∀ j,j<k->w.cell? (ad.add (i*k+j))=y.2[j]?) hone
  have hlen':((List.range len).map fun i=>(Y i).1).length=len:=by simp
  have hget:∀ i,i<len->((List.range len).map fun i=>(Y i).1)[i]?=some (Y i).1:=fun i hi=>by rw[List.getElem?_map,List.getElem?_range hi];rfl
  refine⟨some ad,(List.range len).map fun i=>(Y i).1,cap,by rw[hlen'],?_,fun a ha=>?_,by omega,hm⟩
  ·rw[hlen']
   rcases Nat.eq_zero_or_pos len with h0 | h0
   ·subst h0
    exact .none _ _ _
   obtain⟨b,o,s⟩:=ad
   have hcell:∀ i,i<len -> ∀ j,j<k -> ∃ v,(Y i).2[j]?=some v:=fun i hi j hj=>by
    have hl':=(hY i hi).1.1
    rw[hk]at hl'
    exact⟨_,List.getElem?_eq_getElem (by omega)⟩
   obtain rfl:s=none:=by
    obtain⟨v,hv⟩:=hcell 0 h0 0 hk0
    have:=(hY 0 h0).2.2 0 hk0
    rw[hv]at this
    simpa[Addr.add]using World.cell?_spot this
   have hb':b<w.heap.size:=by
    obtain⟨v,hv⟩:=hcell 0 h0 0 hk0
    have:=(hY 0 h0).2.2 0 hk0
    rw[hv]at this
    have:=World.block_lt_of_cell? _ _ this
    simpa[Addr.add_lit]using this
   have hfl:((((List.range len).map fun i=>(Y i).1)).flatMap f).length=len*k:=by rw[FA hk,hlen']
   refine .row k len b o cap _ (fun j=>((Y (j / k)).2[j % k]?).getD default) h0 (by omega) hfl hb' (fun j hj=>?_) fun j d hd=>?_
   ·rw[hfl]at hj
    have hi:j / k<len:=Nat.div_lt_of_lt_mul (by rw[Nat.mul_comm];exact hj)
    have hr:j % k<k:=Nat.mod_lt _ hk0
    obtain⟨v,hv⟩:=hcell _ hi _ hr
    have:=(hY _ hi).2.2 _ hr
    rw[Addr.add_lit,Nat.div_add_mod' j k]at this
    rw[this,hv]
    rfl
   ·have hj:j<len*k:=by rw[<- hfl];exact(List.getElem?_eq_some_iff.1 hd).1
    have hi:j / k<len:=Nat.div_lt_of_lt_mul (by rw[Nat.mul_comm];exact hj)
    have hr:j % k<k:=Nat.mod_lt _ hk0
    obtain⟨v,hv⟩:=hcell _ hi _ hr
    rw[<- Nat.div_add_mod' j k,K5 hk (hget _ hi) hr]at hd
    show Lies w (Old w) d (((Y (j / k)).2[j % k]?).getD default)
    rw[hv]
    exact(hY _ hi).1.2 _ d v hd hv
  ·obtain⟨i,hi,rfl⟩:=List.mem_map.1 ha
   exact(hY i (by simpa using hi)).2.1
end
end
section
open Go.ChangeShapes Go.WideShapes Go.ChangeAt Go.RowKit
section
variable{H:Type}{enc:TypeId×Value->H}{P:Program}
theorem ED(hl:laidOutB P=true){W W':World}(hb:Below W.heap.size W W'){sp:Nat->Bool}:∀ {ts:List TypeId} {vs:List Value} {ds:List (DataW H)} {ps:List MemPlace},
  (ts.all fun t=>P.readableRec t&&decide (t<P.types.size))=true->DataW.TrodAll enc P W 0 (fun _=>true) true ts vs ds ps->(∀ p∈ps,p.block<W.heap.size)->(∀ p∈ps,sp p.block=true) ->
  DataW.TrodAll enc P W' 0 sp true ts vs ds ps
 | [],_,_,_,_,h,_,_=>by
  obtain⟨rfl,rfl,rfl⟩:=trodAll_nil h
  exact trodAll_mk0
 | t::ts,_,_,_,ht,h,hlt,hsp=>by
  simp only[List.all_cons,Bool.and_eq_true,decide_eq_true_eq]at ht
  obtain⟨v,vs,d,ds,p,q,rfl,rfl,rfl,h0,hr⟩:=trodAll_cons h
  exact trodAll_cons_mk (WideElems.Trod_stays hl ht.1.1 ht.1.2 h0 (fun x hx=>hb.same (hlt x (List.mem_append_left _ hx))) (fun x hx=>hsp x (List.mem_append_left _ hx)))
   (ED hl hb ht.2 hr (fun x hx=>hlt x (List.mem_append_right _ hx)) (fun x hx=>hsp x (List.mem_append_right _ hx)))
theorem JR{f:Func}{s:ChangeSpec}{W W':World}{args:Array Value}{ds:List (DataW H)}{before:List MemPlace}
  (hl:laidOutB P=true) (ht:(f.params.toList.all fun t=>P.readableRec t&&decide (t<P.types.size))=true)
  (hvars:s.vars=[]) (hs:s.fn H (ds++[])={ results:=[.lit (.bool true)],args:=ds }) {tb:TypeId} (hres:f.resultTypes = #[tb]) (hbool:P.underlying tb=some .bool)
  (hW:DataW.Whole enc P f.params.toList s.vars false W args.toList ds [] before)
  (hA:DataW.TrodAll enc P W 0 (fun _=>true) true f.params.toList args.toList ds before) (hb:Below W.heap.size W W'):
  s.post enc P f false true false false W args (.bool true) W':=by
 have hlt:∀ p∈before,p.block<W.heap.size:=fun p hp=>hW.lt p hp
 have e1:(Value.bool true).resultList f.resultTypes.size=[Value.bool true]:=by rw[hres];rfl
 refine⟨ds,[],before,[],before,[],hW,?_,?_,?_,World.keptBut_mono (fun p hp=>⟨hp,by simpa using hp⟩) (hb.frame (· ∈ before)),fun h=>by cases h⟩
 ·rw[hs,e1,hres]
  exact trodAll_mk1 (shut_bool hbool _)
 ·rw[hs]
  exact ED hl hb ht hA hlt (fun p hp=>by simpa using hlt p hp)
 ·rw[hs,hvars]
  rfl
end
end
section
open Go.ChangeShapes Go.WideShapes Go.ChangeAt Go.RowKit
section
variable{H:Type}{enc:TypeId×Value->H}{w:World}{base:Nat}{spare:Nat->Bool}{held:Bool}
theorem HX:Try.prog.cellsOf 3=1:=by kernel_rfl
theorem IF:Try.prog.cellsOf 45=2:=by kernel_rfl
theorem M7:Try.prog.bytesOf 45=16:=by kernel_rfl
theorem J5{r:Reach}{b0:Nat}{v:Value}{d:DataW H}{ps:List MemPlace}(hval:Value.okWide Try.prog w r b0 22 v)(h:DataW.Trod enc Try.prog w base spare held 22 v d ps):
  ∃ (p:Option Addr) (l:List Int) (c:Nat),v=.slice p l.length c/\Lies w (Old w) (zsD l) (.slice p l.length c):=by
 obtain⟨a0,len,cap,rfl⟩:=okWide_slice Try.underlying22 hval
 obtain⟨fuel,hf⟩:=h
 obtain⟨p,qs,c,e,hl,_,_,_⟩:=H8 (f:=zD1) (F:=fun _:Int=>True) Try.underlying22 (by omega) HX AT (fun n hn cs x hx=>by
  obtain⟨z,e2,_⟩:=DataW.trod_int Try.underlying3 hx
  refine⟨z,?_,trivial⟩
  subst e2
  exact .cons (.cell _) (.nil _ _)) hf
 simp[Value.cells]at e
 obtain⟨rfl,rfl,rfl⟩:=e
 exact⟨_,qs,_,rfl,hl⟩
theorem KG{r:Reach}{b0:Nat}{v:Value}{d:DataW H}{ps:List MemPlace}(hval:Value.okWide Try.prog w r b0 28 v)(h:DataW.Trod enc Try.prog w base spare held 28 v d ps)(hz:∀ n∈d.weights Try.prog 28,n<=reachBytes):
  ∃ (p:Option Addr) (l:List Rn) (c:Nat),v=.slice p l.length c/\Lies w (Old w) (BH l) (.slice p l.length c)/\l.length<=8796093022208:=by
 obtain⟨a0,len,cap,rfl⟩:=okWide_slice Try.underlying28 hval
 obtain⟨fuel,hf⟩:=h
 have hlen:len<=8796093022208:=by
  rcases DataW.trod_slice Try.underlying28 hf with⟨e,_⟩ | ⟨ad,len',cap',elems,rest,n,_,e,ex,_,_,_,hle,_,_,_⟩
  ·simp[Value.cells]at e
   omega
  ·simp only[Value.cells,List.cons.injEq,Value.slice.injEq,and_true]at e
   injection ex with e1 _
   subst e1
   have:=hz ((elems.length+rest.length)*16) (by simp[DataW.weights,Try.underlying28,M7])
   have hr:=reachBytes_lt
   obtain⟨_,rfl,_⟩:=e
   omega
 obtain⟨p,qs,c,e,hl,_,_,_⟩:=H8 (f:=rnD) (F:=fun _:Rn=>True) Try.underlying28 (by omega) IF BO (fun n hn cs x hx=>by
  obtain⟨xs,m,_,_,hcl,hxl,hall⟩:=DataW.trod_struct Try.underlying45 hx
  rw[IF]at hcl
  match cs,hcl,xs,hxl with
  | [c0,c1],_,[y0,y1],_=>
   have h0:DataW.trod enc Try.prog w base spare held m 3 [c0]=some y0:=by simpa[HX]using hall 0 _ rfl
   have h1:DataW.trod enc Try.prog w base spare held m 3 [c1]=some y1:=by simpa[HX]using hall 1 _ rfl
   obtain⟨z0,e0,_⟩:=DataW.trod_int Try.underlying3 h0
   obtain⟨z1,e1,_⟩:=DataW.trod_int Try.underlying3 h1
   simp only[List.cons.injEq,and_true]at e0 e1
   subst e0 e1
   exact⟨(z0,z1),.cons (.cell _) (.cons (.cell _) (.nil _ _)),trivial⟩) hf
 simp[Value.cells]at e
 obtain⟨rfl,rfl,rfl⟩:=e
 exact⟨_,qs,_,rfl,hl,hlen⟩
theorem KN{ts:List TypeId}{ds:List (DataW H)}(h:(DataW.weightsEach Try.prog ts ds).all (· <= reachBytes)=true){j:Nat}{t:TypeId}{d:DataW H}(ht:ts[j]?=some t)(hd:ds[j]?=some d):∀ n∈d.weights Try.prog t,n<=reachBytes:=fun n hn=>by
 have:=List.all_eq_true.1 h _ (DataW.weights_mem_each ht hd n hn)
 simpa using this
end
theorem JL{P:Program}{f:FuncId}{ps:List Part}{v:Value}{w:World}{vs:List Value}(h:EF P [] f ps (.is v))(hp:PsFit w (Old w) ps vs):Calls P f vs.toArray w fun e w'=>e=.returned v/\Below w.heap.size w w':=
 (h w (Old w) vs (fun g hg=>hg) (fun _ _ h=>by cases h) hp).mono fun e w' ⟨u,y,h1,h2,h3,h4⟩=>by
  subst h2
  refine⟨?_,h3⟩
  rw[h1,VR.is_eq (h4 (fun _=>0) (fun _=>undef))]
end
end Go.Proofs.Ytjpghcmlglhmbaa
