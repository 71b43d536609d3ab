/- Part 23. Conditions: as each theorem says. -/
import Derived.Test.YtecfdcdkkgmkpaaIS22
import Derived.Test.YtecfdcdkkgmkpaaProg
import Derived.ProofKit
import Derived.OpenShut
import Derived.Carry
import Derived.ChangeSame
set_option maxRecDepth 100000
namespace Go.Proofs.Ytecfdcdkkgmkpaa
open Go.RowKit
theorem U2(e:Ed)(hs:e.Sm)(hr:AU e=true):EF Try.prog [] 11 [.many (ed e)] (.part (.many (ed (BG e)))):=by
 refine AF 5 Try.func11 rfl rfl rfl fun w D=>?_
 try refine A1 ?_
 refine AG ?_
 refine RV 1000 200 rfl rfl rfl rfl (kn rfl) rfl rfl rfl (fun g=>?_)
 refine BB 2 [.is (.int .i64 0),.is (.int .i64 0),.is (.int .u64 0),.is (.string ⟨#[]⟩),.is (.slice none 0 0),.is (.string ⟨#[]⟩),.is (.slice none 0 0),.is (.slice none 0 0),.is (.int .i64 0),.is (.int .u64 0),.is (.string ⟨#[]⟩),.is (.slice none 0 0),.is (.string ⟨#[]⟩),.is (.slice none 0 0),.is (.slice none 0 0),.is (.slice none 0 0),.is (.bool false),.is (.string ⟨#[]⟩),.is (.string ⟨#[]⟩),.is (.slice none 0 0),.is (.slice none 0 0)] rfl rfl rfl rfl zr_32 (fun w D M V=>⟨rfl,fun j x v h1 h2=>BA _ h1 h2 rfl⟩) rfl rfl rfl rfl ?_
 refine AD ?_
 try refine A1 ?_
 have hc:=Q9 e hs hr 32 21 1 [] [] (.slice (some ⟨g,0,none⟩) 1 1) rfl
 refine D5 (ds':=[]++(ed e++[])) rfl (by simp) ?_
 refine AG ?_
 refine TC rfl rfl rfl rfl (by kernel_rfl) hc trivial ⟨rfl,trivial⟩ (fun w D M V a hT=>⟨⟨⟨g,1,1,hT 200 _ rfl,Lies.cell_eq (hT 1 _ rfl)⟩,hT 200 _ rfl⟩,trivial⟩) YT.tidy ?_
 rintro _ _ _ ⟨rfl,rfl,rfl⟩
 refine AD ?_
 try refine A1 ?_
 refine T3 (t:=1) (s:=3) rfl rfl ?_
 refine AG ?_
 refine AK (FU (m:=21) (es:=ed (BG e)) rfl (kn rfl) rfl (by rw[List.nil_append,List.append_nil];rfl) (by rw[List.nil_append,List.append_nil];exact Nat.le_refl 21) agg_32 sz_32) ?_
 refine B2 rfl rfl rfl (kn rfl) rfl (kn rfl) rfl rfl sz_32 ?_
 refine AD ?_
 try refine A1 ?_
 exact A7 rfl rfl (.cell rfl rfl rfl agg_32 sz_32 rfl (.nil)) (Imp.of_eq rfl) rfl
abbrev vA:Vl:=UL 1
abbrev vB2:Vl:=.mk 2 0 [98] [] [] [] []
abbrev exI:Ed:=.mk 1 vA vB2 [] false [] [] [] []
abbrev exJ2:Ed:=.mk 1 vB2 vA [] false [] [] [] []
theorem vB2_sm:VSm 80 vB2:=by
 refine⟨.mk _ (by decide) (by decide) (by decide) (show 1<=maxLen by decide) (Nat.zero_le _) (Nat.zero_le _) (Nat.zero_le _) (Nat.zero_le _) (fun _ h=>by cases h) (fun _ h=>by cases h) (fun _ h=>by cases h) (fun _ h=>by cases h) (fun _ h=>by cases h),.mk _ (show 1<=400 by decide) (Nat.zero_le _) (fun _ h=>by cases h),?_⟩
 rw[C1]
 simp[Vl.list,Vl.fields,Vl.pairs,lnodes,fnodes,pnodes]
theorem R7:vright vB2=true:=by simp[vright,fright,lright,pright,vplain,Vl.kind,Vl.num,Vl.text,Vl.fields,Vl.rest,Vl.list,Vl.pairs]
theorem QZ:GM vA vB2=false:=by
 unfold GM
 rw[HW]
 rfl
theorem T5:BG exI=exJ2:=by rw[C7];rfl
theorem L6:AU exI=true:=by rw[OP,PB,R7,QZ];rfl
set_option maxHeartbeats 1000000 in
theorem PO:EF Try.prog [] 6 [] (.part (tP true)):=by
 have zA:VSm 80 vA:=NY 1 1 (by decide) (by decide) (by decide)
 have sA:=zA.short (by decide)
 have sB:=vB2_sm.short (by decide)
 have hI:exI.Sm:=OD 1 _ _ ⟨by decide,by decide⟩ zA vB2_sm
 have hJ:exJ2.Sm:=OD 1 _ _ ⟨by decide,by decide⟩ vB2_sm zA
 have hi:=U2 exI hI L6
 have hJr:=FC exI L6
 rw[T5]at hi hJr
 refine AF 29 Try.func6 rfl rfl rfl fun w D=>?_
 try refine A1 ?_
 refine A0 (AC rfl rfl rfl rfl rfl .nil) ?_
 try refine A1 ?_
 refine AG ?_
 refine AK (DZ (ds:=[_,_,_,.row 8 0 [],_,.row 7 0 [],.row 14 0 []]) [(0,_),(1,_)] rfl ⟨rfl,(kn rfl),⟨rfl,(kn rfl),trivial⟩⟩ rfl pl_27 zr_27 (fun w D=>.cons (.cell _) (.cons (.cell _) (.cons (.cell _) (.cons (.none _ _ _) (.cons (.cell _) (.cons (.none _ _ _) (.cons (.none _ _ _) (.nil _ _)))))))) rfl) ?_
 refine AK (DZ (ds:=[_,_,_,.row 8 0 [],_,.row 7 0 [],.row 14 0 []]) [(0,_),(2,_)] rfl ⟨rfl,(kn rfl),⟨rfl,(kn rfl),trivial⟩⟩ rfl pl_27 zr_27 (fun w D=>.cons (.cell _) (.cons (.cell _) (.cons (.cell _) (.cons (.none _ _ _) (.cons (.cell _) (.cons (.none _ _ _) (.cons (.none _ _ _) (.nil _ _)))))))) rfl) ?_
 refine BB 1 [.is (.int .i64 0),.is (.int .u64 0),.is (.string ⟨#[]⟩),.is (.slice none 0 0),.is (.string ⟨#[]⟩),.is (.slice none 0 0),.is (.slice none 0 0)] rfl rfl rfl rfl zr_27 (fun w D M V=>⟨rfl,fun j x v h1 h2=>BA _ h1 h2 rfl⟩) rfl rfl rfl rfl ?_
 refine BB 2 [.is (.int .i64 0),.is (.int .u64 0),.is (.string ⟨#[]⟩),.is (.slice none 0 0),.is (.string ⟨#[]⟩),.is (.slice none 0 0),.is (.slice none 0 0)] rfl rfl rfl rfl zr_27 (fun w D M V=>⟨rfl,fun j x v h1 h2=>BA _ h1 h2 rfl⟩) rfl rfl rfl rfl ?_
 refine B2 rfl rfl rfl (kn rfl) rfl (kn rfl) rfl rfl sz_27 ?_
 refine B2 rfl rfl rfl (kn rfl) rfl (kn rfl) rfl rfl sz_27 ?_
 refine AD ?_
 try refine A1 ?_
 refine AG ?_
 refine AK (A9 (ds:=[_,_,_,_,_,_,_]) 7 rfl (kn rfl) rfl rfl agg_27 sz_27 rfl) ?_
 refine AK (A9 (ds:=[_,_,_,_,_,_,_]) 7 rfl (kn rfl) rfl rfl agg_27 sz_27 rfl) ?_
 refine AK (DZ (ds:=[_,_,_,_,_,_,_,_,_,_,_,_,_,_,_,.row 22 0 [],_,_,_,.row 30 0 [],.row 28 0 []]) [(0,_),(1,_),(2,_)] rfl ⟨rfl,(kn rfl),⟨rfl,(kn rfl),⟨rfl,(kn rfl),trivial⟩⟩⟩ rfl pl_32 zr_32 (fun w D=>.cons (.cell _) (.cons (.cell _) (.cons (.cell _) (.cons (.cell _) (.cons (.cell _) (.cons (.cell _) (.cons (.cell _) (.cons (.cell _) (.cons (.cell _) (.cons (.cell _) (.cons (.cell _) (.cons (.cell _) (.cons (.cell _) (.cons (.cell _) (.cons (.cell _) (.cons (.none _ _ _) (.cons (.cell _) (.cons (.cell _) (.cons (.cell _) (.cons (.none _ _ _) (.cons (.none _ _ _) (.nil _ _)))))))))))))))))))))) rfl) ?_
 refine AK (AH rfl (by kernel_rfl) (hi) ⟨(kn rfl),trivial⟩) ?_
 refine BB 3 [.is (.int .i64 0),.is (.int .i64 0),.is (.int .u64 0),.is (.string ⟨#[]⟩),.is (.slice none 0 0),.is (.string ⟨#[]⟩),.is (.slice none 0 0),.is (.slice none 0 0),.is (.int .i64 0),.is (.int .u64 0),.is (.string ⟨#[]⟩),.is (.slice none 0 0),.is (.string ⟨#[]⟩),.is (.slice none 0 0),.is (.slice none 0 0),.is (.slice none 0 0),.is (.bool false),.is (.string ⟨#[]⟩),.is (.string ⟨#[]⟩),.is (.slice none 0 0),.is (.slice none 0 0)] rfl rfl rfl rfl zr_32 (fun w D M V=>⟨rfl,fun j x v h1 h2=>BA _ h1 h2 rfl⟩) rfl rfl rfl rfl ?_
 refine B2 rfl rfl rfl (kn rfl) rfl (kn rfl) rfl rfl sz_32 ?_
 refine AD ?_
 try refine A1 ?_
 refine A0 (A4 rfl rfl rfl (A3 rfl (kn rfl) off_32_0) (A4 rfl rfl rfl (A5 rfl (kn rfl) rfl rfl one_3) (A4 rfl rfl rfl (A6 rfl (kn rfl) (kn rfl) AL) (A8 rfl rfl rfl rfl rfl (Walk.gd _ rfl rfl rfl (fun h=>A3 rfl (kn rfl) off_32_1) (Walk.gd _ rfl rfl rfl (fun h=>A9 (ds:=[_,_,_,_,_,_,_]) 7 rfl (A2 rfl h) rfl rfl agg_27 sz_27 rfl) (Walk.gd _ rfl rfl rfl (fun h=>A9 (ds:=[_,_,_,_,_,_,_]) 7 rfl (kn rfl) rfl rfl agg_27 sz_27 rfl) (Walk.gd _ rfl rfl rfl (fun h=>AH rfl (by kernel_rfl) (HQ vB2 vB2 sB sB) ⟨(A2 rfl h),⟨(A2 rfl h),trivial⟩⟩) (A4 rfl rfl rfl (AN rfl (kn rfl) (fun hb=>A2 rfl hb)) (A8 rfl rfl rfl rfl rfl (Walk.gd _ rfl rfl rfl (fun h=>A3 rfl (kn rfl) off_32_2) (Walk.gd _ rfl rfl rfl (fun h=>A9 (ds:=[_,_,_,_,_,_,_]) 7 rfl (A2 rfl h) rfl rfl agg_27 sz_27 rfl) (Walk.gd _ rfl rfl rfl (fun h=>A9 (ds:=[_,_,_,_,_,_,_]) 7 rfl (kn rfl) rfl rfl agg_27 sz_27 rfl) (Walk.gd _ rfl rfl rfl (fun h=>AH rfl (by kernel_rfl) (HQ vA vA sA sA) ⟨(A2 rfl h),⟨(A2 rfl h),trivial⟩⟩) (A4 rfl rfl rfl (AN rfl (kn rfl) (fun hb=>A2 rfl hb)) (A8 rfl rfl rfl rfl rfl (Walk.gd _ rfl rfl rfl (fun h=>A9 (ds:=[_,_,_,_,_,_,_,_,_,_,_,_,_,_,_,_,_,_,_,_,_]) 21 rfl (kn rfl) rfl rfl agg_32 sz_32 rfl) (Walk.gd _ rfl rfl rfl (fun h=>AH rfl (by kernel_rfl) (IA exJ2 hJ) ⟨(A2 rfl h),trivial⟩) (A4 rfl rfl rfl (AN rfl (kn rfl) (fun hb=>A2 rfl hb)) (AC rfl rfl rfl rfl rfl .nil)))))))))))))))))))) ?_
 try refine A1 ?_
 exact A7 rfl rfl (.tmp (kn rfl) (.nil)) (AT (by rw[hJr];simp[LI,Ed.kind])) rfl
theorem R3{k:Int}{l:List Stp}{v:Vl}(h:v∈CI k l):∃ s∈l,v=s.1.2.2:=by
 unfold CI at h
 obtain⟨s,hs,rfl⟩:=List.mem_map.1 h
 exact⟨s,(List.mem_filter.1 hs).1,rfl⟩
theorem L5(k:Int)(l:List Stp):(CI k l).length<=l.length:=by
 unfold CI
 rw[List.length_map]
 exact List.length_filter_le _ _
theorem Q8(k:Int)(l:List Stp)(hl:l.length<=80):EF Try.prog [] 17 [.one (.row 30 l.length (l.flatMap BC)),iP k] (.part (.one (.row 7 (CI k l).length ((CI k l).flatMap Vl.dats)))):=by
 refine AF 26 Try.func17 rfl rfl rfl fun w D=>?_
 try refine A1 ?_
 refine A0 (AC rfl rfl rfl rfl rfl .nil) ?_
 try refine A1 ?_
 refine AG ?_
 refine LY 1000 rfl rfl rfl rfl sl_24 ap_24 rfl rfl ?_
 refine BW ?_
 refine AD ?_
 try refine A1 ?_
 refine A0 (A8 rfl rfl rfl rfl rfl (A4 rfl rfl rfl (AY rfl (kn rfl) sle_29) (A8 rfl rfl rfl rfl rfl .nil))) ?_
 try refine A1 ?_
 refine BN (ι:={ i:Nat // i<=l.length })
  (fun i=>[(1,.is (.int .i64 k)),(5,.own 1000),(9,.part (.one (.row 30 l.length (l.flatMap BC)))),(10,.is (.int .i64 (l.length:Int))),(11,.is (.int .i64 (i.1:Int)))])
  (fun _=>[]) (fun i=>[(1000,⟨27,7,(CI k (l.take i.1)).length,(CI k (l.take i.1)).flatMap Vl.dats,false⟩)]) (fun i=>l.length-i.1) ⟨0,by omega⟩
  (fun K=>AM ⟨s_t,s_t,s_t,s_t,s_t,trivial⟩ trivial ⟨rfl,trivial⟩) ?_
 rintro⟨i,hi⟩
 dsimp only at hi ⊢
 try refine A1 ?_
 refine A0 (A4 rfl rfl rfl (A6 rfl (kn rfl) (kn rfl) BM) .nil) ?_
 try refine A1 ?_
 refine AB rfl (fun h=>?_) (fun h=>?_)
 ·have hlt:i<l.length:=by have:=of_decide_eq_true h;omega
  obtain⟨x,hx⟩:∃ x,l[i]?=some x:=⟨_,List.getElem?_eq_getElem hlt⟩
  have hkn:=P8 (k:=k) hx
  have hkl:=L5 k (l.take i)
  rw[List.length_take]at hkl
  try refine A1 ?_
  refine AG ?_
  refine AK (AX rfl (kn rfl) (kn rfl) (by omega) hx CA sle_29 esz_29 (C0 x)) ?_
  refine AK (AO rfl (kn rfl) agg_76 sz_76) ?_
  refine BB 7 [.is (.int .i64 0),.is (.int .i64 0),.is (.int .i64 0),.is (.int .u64 0),.is (.string ⟨#[]⟩),.is (.slice none 0 0),.is (.string ⟨#[]⟩),.is (.slice none 0 0),.is (.slice none 0 0),.is (.int .i64 0),.is (.int .i64 0),.is (.int .u64 0),.is (.string ⟨#[]⟩),.is (.slice none 0 0),.is (.string ⟨#[]⟩),.is (.slice none 0 0),.is (.slice none 0 0),.is (.int .i64 0),.is (.int .u64 0),.is (.string ⟨#[]⟩),.is (.slice none 0 0),.is (.string ⟨#[]⟩),.is (.slice none 0 0),.is (.slice none 0 0),.is (.slice none 0 0),.is (.bool false),.is (.string ⟨#[]⟩),.is (.string ⟨#[]⟩),.is (.slice none 0 0),.is (.slice none 0 0)] rfl rfl rfl rfl zr_76 (fun w D M V=>⟨rfl,fun j x v h1 h2=>BA _ h1 h2 rfl⟩) rfl rfl rfl rfl ?_
  refine B2 rfl rfl rfl (kn rfl) rfl (kn rfl) rfl rfl sz_76 ?_
  refine AD ?_
  try refine A1 ?_
  refine A0 (A4 rfl rfl rfl (A3 rfl (kn rfl) off_76_0) (A4 rfl rfl rfl (A5 rfl (kn rfl) rfl rfl one_3) (A8 rfl rfl rfl rfl rfl (A4 rfl rfl rfl (A6 rfl (kn rfl) (kn rfl) AL) .nil)))) ?_
  try refine A1 ?_
  refine AB rfl (fun c=>?_) (fun c=>?_)
  ·rw[if_pos (of_decide_eq_true c)]at hkn
   try refine A1 ?_
   refine AG ?_
   refine BE ?_
   refine AK (A3 rfl (kn rfl) off_76_2) ?_
   refine AK (A9 (ds:=[_,_,_,_,_,_,_]) 7 rfl (kn rfl) rfl rfl agg_27 sz_27 rfl) ?_
   refine AK (C6 (ds:=[_,_,_,_,_,_,_]) [(0,_)] rfl ⟨rfl,(kn rfl),trivial⟩ rfl sl_24 sz_27 zr_27 (fun w D=>.cons (.cell _) (.cons (.cell _) (.cons (.cell _) (.cons (.cell _) (.cons (.cell _) (.cons (.cell _) (.cons (.cell _) (.nil _ _)))))))) rfl rfl rfl rfl rfl) ?_
   refine DN rfl rfl rfl rfl (kn rfl) rfl (kn rfl) sl_24 ap_24 rfl rfl (by first | omega | (dsimp only;omega)) (by first | omega | (dsimp only;omega)) ?_
   refine BW ?_
   refine AD ?_
   try refine A1 ?_
   refine D5 (n':=(CI k (l.take (i+1))).length) (ds':=(CI k (l.take (i+1))).flatMap Vl.dats) (by rw[hkn];simp) (by rw[hkn,List.flatMap_append,List.flatMap_cons,D7];rfl) ?_
   refine A0 (A4 rfl rfl rfl (A6 rfl (kn rfl) (kn rfl) (AW (by first | omega | (dsimp only;omega)))) (A8 rfl rfl rfl rfl rfl .nil)) ?_
   try refine A1 ?_
   refine AV ⟨i+1,by omega⟩ (by dsimp only;omega) (fun K=>AM ⟨s_t,s_t,s_t,s_t,s_t,trivial⟩ trivial ⟨rfl,trivial⟩)
  rw[if_neg (of_decide_eq_false c),List.append_nil]at hkn
  try refine A1 ?_
  refine A0 (A4 rfl rfl rfl (A6 rfl (kn rfl) (kn rfl) (AW (by first | omega | (dsimp only;omega)))) (A8 rfl rfl rfl rfl rfl .nil)) ?_
  try refine A1 ?_
  refine AV ⟨i+1,by omega⟩ (by dsimp only;omega) (fun K=>AM ⟨s_t,s_t,s_t,s_t,s_t,trivial⟩ trivial ⟨EU rfl (by rw[hkn]) (by rw[hkn]),trivial⟩)
 obtain rfl:i=l.length:=by have:=of_decide_eq_false h;omega
 rw[List.take_length]
 try refine A1 ?_
 refine A0 (A8 rfl rfl rfl rfl rfl (AC rfl rfl rfl rfl rfl .nil)) ?_
 try refine A1 ?_
 refine CU 4 1000 rfl rfl rfl ?_
 exact A7 rfl rfl (.tmp (kn rfl) (.nil)) (Imp.of_eq rfl) rfl
theorem US{x:Bool}(h:(!x)=true):x=false:=by cases x<;>first | rfl | cases h
abbrev eS(l:List Stp):Ed:=.mk 3 CT CT [] false [] [] l []
theorem UY{e:Ed}(h:e.Sm):(eS e.steps).Sm:=by
 have z0:VSm 80 CT:=NY 0 0 (by decide) (by decide) (by decide)
 obtain⟨_,_,_,_,_,_,h7,_⟩:=h.ok.all
 refine⟨.mk _ ⟨show(-9223372036854775808:Int)<=3 by decide,show(3:Int)<9223372036854775808 by decide⟩ z0 z0 (Nat.zero_le _) (Nat.zero_le _) (fun _ h=>by cases h) h7 (fun _ h=>by cases h) fun x hx=>?_,?_⟩
 ·rcases List.mem_append.1 hx with hx | hx
  ·cases hx
  rcases List.mem_append.1 hx with hx | hx
  ·obtain⟨p,hp,rfl⟩:=List.mem_map.1 hx
   exact h.ok.kid (Ed.kid_s hp)
  ·cases hx
 ·have h1:=h.count
  rw[CL]at h1 ⊢
  show 1+(0+(e.steps.map fun p=>ecount p.2).sum+0)<=80
  omega
theorem UX{e:Ed}(h:AU e=true)(k:e.kind=3):eS e.steps=e:=by
 obtain⟨h1,h2,_,h4⟩:=ED h
 obtain⟨a,b⟩:=h1.resolve_left (by omega)
 obtain⟨c,d,f,g⟩:=h2.resolve_left (by omega)
 conv=>rhs;rw[e.eta,k,a,b,c,d,f,g,h4.resolve_left (by omega)]
theorem SD(e:Ed)(hs:e.Sm)(hr:AU e=true):EF Try.prog [] 12 [.one (.row 30 e.steps.length (e.steps.flatMap BC))] (.part (.one (.row 30 (BG e).steps.length ((BG e).steps.flatMap BC)))):=by
 have hl:=hs.lens
 have hk:=F4 hr
 rw[CY]
 exact LS e.steps (by omega) (FD hr).2.1 (fun s h=>Q9 _ (hs.kid (Ed.kid_s h)) (hk _ (Ed.kid_s h))) (fun s h=>FC _ (hk _ (Ed.kid_s h)))
section
variable{P:Program}{cx:Cx}{T:TL}{B:BL}{R:RL}{o:Oper}
theorem OE{t e:TypeId}{len k:Nat}{parts:List (Nat×Operand)}(ps:List (Nat×Part)){zs:List Value}{zd ds:List Dat}(ho:o.op=.build t parts.toArray)(hp:KnL T parts ps)(h1:ps.all (·.2.isOne)=true)(hu:P.underlying t=some (.array len e))(hs:sizeT P e=some k)(hz:C9 P t=some zs)(hzd:∀ w D,Fits w D zd zs)
  (hf:GK (fun i=>some (i*k,k)) zd ps=some ds):LStep P cx B R o T (.part (.many ds)):=LStep.same fun M V w a _ hk=>by
 obtain⟨hl,hg⟩:=hp.get
 cases hi:P.info? t with
 | none=>grind[C9]
 | some it=>
  cases hzz:it.zero with
  | none=>grind[C9]
  | some z=>
   cases hie:P.info? e with
   | none=>grind[sizeT]
   | some ie=>
    have hks:ie.size=k:=by simpa[sizeT,hie]using hs
    have hzc:z.cells.toList=zs:=by simpa[C9,hi,hzz]using hz
    obtain⟨out,ho1,ho2⟩:=HN (w:=w) (D:=Dc cx B R M V w) (place:=fun i=>some (i*k,k)) (vs:=parts.map fun x=>(x.1,a.eval x.2)) (cells:=z.cells) hf (by grind) (by simp[hl]) (fun j i p i' v hj hv=>by
     rw[List.getElem?_map,Option.map_eq_some_iff]at hv
     obtain⟨⟨i2,x⟩,hx1,hx2⟩:=hv
     obtain⟨rfl,rfl⟩:i2=i'/\a.eval x=v:=by grind
     obtain⟨e,hkx⟩:=hg j i2 x i p hx1 hj
     have hpf:PFit _ _ p (a.eval x):=hk x _ (by
      rw[ho]
      have hm:=List.mem_of_getElem? hx1
      simp only[Op.operands]
      grind) hkx
     refine⟨e.symm,hpf,fun d hd=>?_⟩
     subst hd
     have:=List.all_eq_true.1 h1 _ (List.mem_of_getElem? hj)
     exact Lies.one hpf this)
    have hb:P.built t (parts.map fun x=>(x.1,a.eval x.2))=some out:=by
     unfold Program.built
     rw[hi,hu]
     simp only[hzz,hie,hks]
     exact ho1
    have hrun:=run_build (P:=P) w t (parts.map fun x=>(x.1,a.eval x.2)).toArray out (by grind)
    refine⟨.agg out,?_,out.toList,by simp,ho2⟩
    simp_all[execOp]
end
theorem kaN:Try.prog.arrayLen 53=2:=by kernel_rfl
theorem kaU:Try.prog.underlying 53=some (.array 2 3):=by kernel_rfl
theorem kaT:Try.prog.underlying 53=some (.array (Try.prog.arrayLen 53) (Try.prog.elem 53)):=by kernel_rfl
theorem kaE:sizeT Try.prog (Try.prog.elem 53)=some 1:=by kernel_rfl
def kq:List (Int×Int):=[(2,3),(3,2)]
def kqD(p:Int×Int):List Dat:=[.cell (.int .i64 p.1),.cell (.int .i64 p.2)]
theorem SW(p:Int×Int):(kqD p).length=2:=rfl
theorem ST{e:Ed}{q:Int×Int}(h:q∈kq):CI q.2 (BG e).steps=CI q.1 e.steps:=by
 rw[CY]
 rcases List.mem_cons.1 h with rfl | h
 ·exact(JR e.steps).1
 rcases List.mem_cons.1 h with rfl | h
 ·exact(JR e.steps).2
 cases h
set_option maxHeartbeats 4000000 in
theorem NL(e:Ed)(he:e.Fine):EF Try.prog [] 5 [.many (ed e)] (.part (tP true)):=by
 refine AF 68 Try.func5 rfl rfl rfl fun w D=>?_
 try refine A1 ?_
 refine AG ?_
 refine BV 1 rfl rfl rfl rfl (kn rfl) rfl rfl rfl rfl ?_
 refine BW ?_
 refine AD ?_
 try refine A1 ?_
 refine A0 (A4 rfl rfl rfl (AH rfl (by kernel_rfl) (PO) trivial) (A4 rfl rfl rfl (DL rfl (kn rfl)) .nil)) ?_
 try refine A1 ?_
 refine NB ?_
 try refine A1 ?_
 refine A0 (A4 rfl rfl rfl (A9 (ds:=[_,_,_,_,_,_,_,_,_,_,_,_,_,_,_,_,_,_,_,_,_]) 21 rfl (kn rfl) rfl rfl agg_32 sz_32 rfl) (A4 rfl rfl rfl (AH rfl (by kernel_rfl) (SR e he) ⟨(kn rfl),⟨(kn rfl),trivial⟩⟩) (A8 rfl rfl rfl rfl rfl (Walk.gd _ rfl rfl rfl (fun h=>A9 (ds:=[_,_,_,_,_,_,_,_,_,_,_,_,_,_,_,_,_,_,_,_,_]) 21 rfl (kn rfl) rfl rfl agg_32 sz_32 rfl) (Walk.gd _ rfl rfl rfl (fun h=>AH rfl (by kernel_rfl) (IA e (QB he (US h))) ⟨(A2 rfl h),trivial⟩) (Walk.gd _ rfl rfl rfl (fun h=>DL rfl (A2 rfl h)) (A4 rfl rfl rfl (ES rfl (kn rfl) (fun hb=>A2 rfl hb)) (A8 rfl rfl rfl rfl rfl (Walk.gd _ rfl rfl rfl (fun h=>A3 rfl (kn rfl) off_32_0) (Walk.gd _ rfl rfl rfl (fun h=>A5 rfl (A2 rfl h) rfl rfl one_3) (Walk.gd _ rfl rfl rfl (fun h=>A6 rfl (A2 rfl h) (kn rfl) D8) (A4 rfl rfl rfl (ES rfl (kn rfl) (fun hb=>A2 rfl hb)) .nil)))))))))))) ?_
 try refine A1 ?_
 refine AB rfl (fun h=>?_) (fun h=>?_)
 ·try refine A1 ?_
  refine A0 (AC rfl rfl rfl rfl rfl .nil) ?_
  try refine A1 ?_
  exact A7 rfl rfl (.tmp (kn rfl) (.nil)) (Imp.of_eq rfl) rfl
 simp only[Bool.or_eq_false_iff,Bool.not_eq_false',decide_eq_true_eq]at h
 obtain⟨⟨g1,g2⟩,g3⟩:=h
 have hs:=QB he g1
 have hl:=hs.lens
 obtain⟨_,_,_,_,_,_,h7,_⟩:=hs.ok.all
 have hse:=TP hs
 have hle:=hse.lens
 have hre:=FC e g2
 have hsS:=UY hse
 have hst:=SD e hs g2
 have hrS:AU (eS (BG e).steps)=true:=by
  rw[UX hre (by rw[DA];exact g3)]
  exact hre
 try refine A1 ?_
 refine A0 (A4 rfl rfl rfl (A3 rfl (kn rfl) off_32_7) (A4 rfl rfl rfl (A5 rfl (kn rfl) rfl rfl one_29) (A4 rfl rfl rfl (AH rfl (by kernel_rfl) (hst) ⟨(kn rfl),trivial⟩) (AC rfl rfl rfl rfl rfl .nil)))) ?_
 try refine A1 ?_
 refine A0 (A4 rfl rfl rfl (OE (ds:=[_,_]) [(0,_),(1,_)] rfl ⟨rfl,kn rfl,⟨rfl,kn rfl,trivial⟩⟩ rfl kaU sz_3 zr_53 (fun w D=>.cons (.cell _) (.cons (.cell _) (.nil _ _))) rfl) (A4 rfl rfl rfl (OE (ds:=[_,_]) [(0,_),(1,_)] rfl ⟨rfl,kn rfl,⟨rfl,kn rfl,trivial⟩⟩ rfl kaU sz_3 zr_53 (fun w D=>.cons (.cell _) (.cons (.cell _) (.nil _ _))) rfl) (A4 rfl rfl rfl (C6 (ds:=[_,_,_,_]) [(0,_),(1,_)] rfl ⟨rfl,(kn rfl),⟨rfl,(kn rfl),trivial⟩⟩ rfl sl_54 sz_53 zr_53 (fun w D=>.cons (.cell _) (.cons (.cell _) (.cons (.cell _) (.cons (.cell _) (.nil _ _))))) rfl rfl rfl rfl rfl) (A4 rfl rfl rfl (AY rfl (kn rfl) sle_54) (A8 rfl rfl rfl rfl rfl .nil))))) ?_
 try refine A1 ?_
 refine BN (ι:={ i:Nat // i<=2 })
  (fun i=>[(1,.box 1 0),(3,.part (.one (.row 30 (BG e).steps.length ((BG e).steps.flatMap BC)))),(29,.part (.one (.row 2 kq.length (kq.flatMap kqD)))),(30,.is (.int .i64 2)),(31,.is (.int .i64 (i.1:Int)))])
  (fun _=>[(1,⟨32,bcs (ed e)⟩)]) (fun _=>[]) (fun i=>2-i.1) ⟨0,by omega⟩
  (fun K=>AM ⟨s_t,s_t,s_t,s_t,s_t,trivial⟩ ⟨s_b,trivial⟩ trivial) ?_
 rintro⟨i,hi⟩
 dsimp only at hi ⊢
 try refine A1 ?_
 refine A0 (A4 rfl rfl rfl (A6 rfl (kn rfl) (kn rfl) BM) .nil) ?_
 try refine A1 ?_
 refine AB rfl (fun h=>?_) (fun h=>?_)
 ·have hlt:i<kq.length:=by have:=of_decide_eq_true h;show i<2;omega
  obtain⟨q,hq⟩:∃ q,kq[i]?=some q:=⟨_,List.getElem?_eq_getElem hlt⟩
  have hkv:=ST (e:=e) (List.mem_of_getElem? hq)
  have o1:=Q8 q.1 e.steps (by omega)
  have o2:=Q8 q.2 (BG e).steps (by omega)
  rw[hkv]at o2
  have hml:=L5 q.1 e.steps
  have hmv:∀ v∈CI q.1 e.steps,B6 v:=fun v hv=>by
   obtain⟨s,hs',rfl⟩:=R3 hv
   exact(h7 s hs').2.2.2.short (by decide)
  try refine A1 ?_
  refine AG ?_
  refine AK (AX rfl (kn rfl) (kn rfl) (by omega) hq SW sle_54 esz_54 rfl) ?_
  refine AK (BI (kqD q) 2 rfl (kn rfl) agg_53 sz_53 rfl rfl) ?_
  refine BB 5 [.is (.int .i64 0),.is (.int .i64 0)] rfl rfl rfl rfl zr_53 (fun w D M V=>⟨rfl,fun j x v h1 h2=>BA _ h1 h2 rfl⟩) rfl rfl rfl rfl ?_
  refine B2 rfl rfl rfl (kn rfl) rfl (kn rfl) rfl rfl sz_53 ?_
  refine AD ?_
  try refine A1 ?_
  refine DV DX (by kernel_rfl) (A4 rfl rfl rfl (A3 rfl (kn rfl) off_32_7) (A4 rfl rfl rfl (A5 rfl (kn rfl) rfl rfl one_29) (A4 rfl rfl rfl (IQ (z:=0) rfl (kn rfl) (kn rfl) (by rw[kaN];decide) kaT kaE) (A4 rfl rfl rfl (A5 rfl (kn rfl) rfl rfl one_3) (A4 rfl rfl rfl (AH rfl (by kernel_rfl) (o1) ⟨(kn rfl),⟨(kn rfl),trivial⟩⟩) (A8 rfl rfl rfl rfl rfl (A4 rfl rfl rfl (IQ (z:=1) rfl (kn rfl) (kn rfl) (by rw[kaN];decide) kaT kaE) (A4 rfl rfl rfl (A5 rfl (kn rfl) rfl rfl one_3) (A4 rfl rfl rfl (AH rfl (by kernel_rfl) (o2) ⟨(kn rfl),⟨(kn rfl),trivial⟩⟩) (AC rfl rfl rfl rfl rfl (AC rfl rfl rfl rfl rfl .nil))))))))))) ?_
  try refine A1 ?_
  generalize CI q.1 e.steps=m at hml hmv
  refine A0 (A8 rfl rfl rfl rfl rfl (A4 rfl rfl rfl (AY rfl (kn rfl) sle_24) (A8 rfl rfl rfl rfl rfl (A4 rfl rfl rfl (AY rfl (kn rfl) sle_24) (A4 rfl rfl rfl (A6 rfl (kn rfl) (kn rfl) D8) .nil))))) ?_
  try refine A1 ?_
  refine AB rfl (fun h=>by simp at h) (fun _=>?_)
  try refine A1 ?_
  refine A0 (A8 rfl rfl rfl rfl rfl (A4 rfl rfl rfl (AY rfl (kn rfl) sle_24) (A8 rfl rfl rfl rfl rfl .nil))) ?_
  try refine A1 ?_
  refine BN (ι:={ j:Nat // j<=m.length })
   (fun j=>[(1,.box 1 0),(3,.part (.one (.row 30 (BG e).steps.length ((BG e).steps.flatMap BC)))),(29,.part (.one (.row 2 kq.length (kq.flatMap kqD)))),(30,.is (.int .i64 2)),(31,.is (.int .i64 (i:Int))),(7,.part (.one (.row 7 m.length (m.flatMap Vl.dats)))),(49,.part (.one (.row 7 m.length (m.flatMap Vl.dats)))),(50,.is (.int .i64 (m.length:Int))),(51,.is (.int .i64 (j.1:Int)))])
   (fun _=>[(1,⟨32,bcs (ed e)⟩)]) (fun _=>[]) (fun j=>m.length-j.1) ⟨0,by omega⟩
   (fun K=>AM ⟨s_t,s_t,s_t,s_t,s_t,s_t,s_t,s_t,s_t,trivial⟩ ⟨s_b,trivial⟩ trivial) ?_
  rintro⟨j,hj⟩
  dsimp only at hj ⊢
  try refine A1 ?_
  refine A0 (A4 rfl rfl rfl (A6 rfl (kn rfl) (kn rfl) BM) .nil) ?_
  try refine A1 ?_
  refine AB rfl (fun h2=>?_) (fun h2=>?_)
  ·have hlt2:j<m.length:=by have:=of_decide_eq_true h2;omega
   obtain⟨v,hv⟩:∃ v,m[j]?=some v:=⟨_,List.getElem?_eq_getElem hlt2⟩
   have sv:=hmv v (List.mem_of_getElem? hv)
   try refine A1 ?_
   refine AG ?_
   refine BE ?_
   refine AK (AX rfl (kn rfl) (kn rfl) (by omega) hv Vl.dats_len sle_24 esz_24 (D7 v)) ?_
   refine AK (BI (vd v) 7 rfl (kn rfl) agg_27 sz_27 rfl rfl) ?_
   refine BB 9 [.is (.int .i64 0),.is (.int .u64 0),.is (.string ⟨#[]⟩),.is (.slice none 0 0),.is (.string ⟨#[]⟩),.is (.slice none 0 0),.is (.slice none 0 0)] rfl rfl rfl rfl zr_27 (fun w D M V=>⟨rfl,fun j x v h1 h2=>BA _ h1 h2 rfl⟩) rfl rfl rfl rfl ?_
   refine BW ?_
   refine B2 rfl rfl rfl (kn rfl) rfl (kn rfl) rfl rfl sz_27 ?_
   refine AD ?_
   try refine A1 ?_
   refine DV DX (by kernel_rfl) (A4 rfl rfl rfl (A9 (ds:=[_,_,_,_,_,_,_]) 7 rfl (kn rfl) rfl rfl agg_27 sz_27 rfl) (A8 rfl rfl rfl rfl rfl (A8 rfl rfl rfl rfl rfl (A4 rfl rfl rfl (AX rfl (kn rfl) (kn rfl) (by omega) hv Vl.dats_len sle_24 esz_24 (D7 v)) (A4 rfl rfl rfl (BI (vd v) 7 rfl (kn rfl) agg_27 sz_27 rfl rfl) (A4 rfl rfl rfl (AH rfl (by kernel_rfl) (HQ v v sv sv) ⟨(kn rfl),⟨(kn rfl),trivial⟩⟩) (A4 rfl rfl rfl (DL rfl (kn rfl)) .nil))))))) ?_
   try refine A1 ?_
   refine AB rfl (fun h3=>?_) (fun _=>?_)
   ·exfalso
    simp[LI]at h3
   try refine A1 ?_
   refine A0 (A4 rfl rfl rfl (A6 rfl (kn rfl) (kn rfl) (AW (by first | omega | (dsimp only;omega)))) (A8 rfl rfl rfl rfl rfl .nil)) ?_
   try refine A1 ?_
   refine AV ⟨j+1,by omega⟩ (by dsimp only;omega) (fun K=>AM ⟨s_t,s_t,s_t,s_t,s_t,s_t,s_t,s_t,s_t,trivial⟩ ⟨s_b,trivial⟩ trivial)
  try refine A1 ?_
  refine A0 (A4 rfl rfl rfl (A6 rfl (kn rfl) (kn rfl) (AW (by first | omega | (dsimp only;omega)))) (A8 rfl rfl rfl rfl rfl .nil)) ?_
  try refine A1 ?_
  refine AV ⟨i+1,by have:kq.length=2:=rfl;omega⟩ (by have:kq.length=2:=rfl;dsimp only;omega) (fun K=>AM ⟨s_t,s_t,s_t,s_t,s_t,trivial⟩ ⟨s_b,trivial⟩ trivial)
 try refine A1 ?_
 refine A0 (A8 rfl rfl rfl rfl rfl (A4 rfl rfl rfl (DZ (ds:=[_,_,_,_,.row 8 0 [],_,.row 7 0 [],.row 14 0 [],_,_,_,.row 8 0 [],_,.row 7 0 [],.row 14 0 [],.row 22 0 [],_,_,_,_,.row 28 0 []]) [(0,_),(7,_)] rfl ⟨rfl,(kn rfl),⟨rfl,(kn rfl),trivial⟩⟩ rfl pl_32 zr_32 (fun w D=>.cons (.cell _) (.cons (.cell _) (.cons (.cell _) (.cons (.cell _) (.cons (.none _ _ _) (.cons (.cell _) (.cons (.none _ _ _) (.cons (.none _ _ _) (.cons (.cell _) (.cons (.cell _) (.cons (.cell _) (.cons (.none _ _ _) (.cons (.cell _) (.cons (.none _ _ _) (.cons (.none _ _ _) (.cons (.none _ _ _) (.cons (.cell _) (.cons (.cell _) (.cons (.cell _) (.cons (.cell _) (.cons (.none _ _ _) (.nil _ _)))))))))))))))))))))) rfl) (A4 rfl rfl rfl (AH rfl (by kernel_rfl) (IA (eS (BG e).steps) hsS) ⟨(kn rfl),trivial⟩) (AC rfl rfl rfl rfl rfl .nil)))) ?_
 try refine A1 ?_
 exact A7 rfl rfl (.tmp (kn rfl) (.nil)) (AT hrS) rfl
section
open Go.ChangeShapes Go.WideShapes Go.ChangeAt Go.RowKit
section
variable{H:Type}{enc:TypeId×Value->H}{P:Program}
theorem RX{x:Int}(h:(Lit.int .u64 x).wf=true):∃ n:Nat,x=(n:Int)/\n<18446744073709551616:=by
 have h1:IntKind.u64.min=0:=rfl
 have h2:IntKind.u64.max=18446744073709551615:=rfl
 simp only[Lit.wf,Bool.and_eq_true,decide_eq_true_eq]at h
 exact⟨x.toNat,by omega,by omega⟩
theorem HY{x:Int}(h:(Lit.int .i64 x).wf=true):-9223372036854775808<=x/\x<9223372036854775808:=by
 have h1:IntKind.i64.min = -9223372036854775808:=rfl
 have h2:IntKind.i64.max=9223372036854775807:=rfl
 simp only[Lit.wf,Bool.and_eq_true,decide_eq_true_eq]at h
 omega
theorem HG(hl:laidOutB P=true){W W':World}(hb:Below W.heap.size W W'){sp:Nat->Bool}:∀ {ts:List TypeId} {vs:List Value} {ds:List (DataW H)} {ps:List MemPlace},
  (ts.all fun t=>P.readableRec t&&decide (t<P.types.size))=true->DataW.TrodAll enc P W 0 (fun _=>true) true ts vs ds ps->(∀ p∈ps,p.block<W.heap.size)->(∀ p∈ps,sp p.block=true) ->
  DataW.TrodAll enc P W' 0 sp true ts vs ds ps
 | [],_,_,_,_,h,_,_=>by
  obtain⟨rfl,rfl,rfl⟩:=trodAll_nil h
  exact trodAll_mk0
 | t::ts,_,_,_,ht,h,hlt,hsp=>by
  simp only[List.all_cons,Bool.and_eq_true,decide_eq_true_eq]at ht
  obtain⟨v,vs,d,ds,p,q,rfl,rfl,rfl,h0,hr⟩:=trodAll_cons h
  exact trodAll_cons_mk (WideElems.Trod_stays hl ht.1.1 ht.1.2 h0 (fun x hx=>hb.same (hlt x (List.mem_append_left _ hx))) (fun x hx=>hsp x (List.mem_append_left _ hx)))
   (HG hl hb ht.2 hr (fun x hx=>hlt x (List.mem_append_right _ hx)) (fun x hx=>hsp x (List.mem_append_right _ hx)))
theorem SC{f:Func}{s:ChangeSpec}{W W':World}{args:Array Value}{ds:List (DataW H)}{before:List MemPlace}
  (hl:laidOutB P=true) (ht:(f.params.toList.all fun t=>P.readableRec t&&decide (t<P.types.size))=true)
  (hvars:s.vars=[]) (hs:s.fn H (ds++[])={ results:=[.lit (.bool true)],args:=ds }) {tb:TypeId} (hres:f.resultTypes = #[tb]) (hbool:P.underlying tb=some .bool)
  (hW:DataW.Whole enc P f.params.toList s.vars false W args.toList ds [] before)
  (hA:DataW.TrodAll enc P W 0 (fun _=>true) true f.params.toList args.toList ds before) (hb:Below W.heap.size W W'):
  s.post enc P f false true false false W args (.bool true) W':=by
 have hlt:∀ p∈before,p.block<W.heap.size:=fun p hp=>hW.lt p hp
 have e1:(Value.bool true).resultList f.resultTypes.size=[Value.bool true]:=by rw[hres];rfl
 refine⟨ds,[],before,[],before,[],hW,?_,?_,?_,World.keptBut_mono (fun p hp=>⟨hp,by simpa using hp⟩) (hb.frame (· ∈ before)),fun h=>by cases h⟩
 ·rw[hs,e1,hres]
  exact trodAll_mk1 (shut_bool hbool _)
 ·rw[hs]
  exact HG hl hb ht hA hlt (fun p hp=>by simpa using hlt p hp)
 ·rw[hs,hvars]
  rfl
end
end
section
open Go.ChangeShapes Go.WideShapes Go.ChangeAt Go.RowKit
theorem G8(s:ByteArray):str s.data.toList=s:=by
 unfold str
 simp
section
variable{H:Type}{enc:TypeId×Value->H}{w:World}{base:Nat}{spare:Nat->Bool}{held:Bool}
theorem DQ:Try.prog.cellsOf 27=7:=by kernel_rfl
theorem NR:Try.prog.cellsOf 97=8:=by kernel_rfl
theorem OF:Try.prog.cellsOf 101=14:=by kernel_rfl
theorem ER:Try.prog.cellsOf 3=1:=by kernel_rfl
theorem QF:Try.prog.cellsOf 22=1:=by kernel_rfl
theorem HE:Try.prog.cellsOf 9=1:=by kernel_rfl
theorem TF:Try.prog.cellsOf 23=1:=by kernel_rfl
theorem TO:Try.prog.cellsOf 24=1:=by kernel_rfl
theorem TG:Try.prog.cellsOf 25=1:=by kernel_rfl
set_option maxHeartbeats 1000000 in
theorem RP:∀ (fuel:Nat) (cs:List Value) (x:DataW H×List MemPlace),DataW.trod enc Try.prog w base spare held fuel 27 cs=some x -> ∃ v:Vl,Fits w (Old w) v.dats cs/\v.Fine:=by
 intro fuel
 induction fuel using Nat.strongRecOn with
 | ind fuel ih=>
  intro cs x h
  obtain⟨xs,m,rfl,_,hcl,hxl,hf⟩:=DataW.trod_struct Try.underlying27 h
  rw[DQ]at hcl
  match cs,hcl,xs,hxl with
  | [c0,c1,c2,c3,c4,c5,c6],_,[y0,y1,y2,y3,y4,y5,y6],_=>
   have h0:DataW.trod enc Try.prog w base spare held m 3 [c0]=some y0:=by simpa[ER]using hf 0 _ rfl
   have h1:DataW.trod enc Try.prog w base spare held m 22 [c1]=some y1:=by simpa[QF]using hf 1 _ rfl
   have h2:DataW.trod enc Try.prog w base spare held m 9 [c2]=some y2:=by simpa[HE]using hf 2 _ rfl
   have h3:DataW.trod enc Try.prog w base spare held m 23 [c3]=some y3:=by simpa[TF]using hf 3 _ rfl
   have h4:DataW.trod enc Try.prog w base spare held m 9 [c4]=some y4:=by simpa[HE]using hf 4 _ rfl
   have h5:DataW.trod enc Try.prog w base spare held m 24 [c5]=some y5:=by simpa[TO]using hf 5 _ rfl
   have h6:DataW.trod enc Try.prog w base spare held m 25 [c6]=some y6:=by simpa[TG]using hf 6 _ rfl
   obtain⟨k,e0,_,wk⟩:=DataW.trod_int Try.underlying3 h0
   obtain⟨z,e1,_,wz⟩:=DataW.trod_int Try.underlying22 h1
   obtain⟨s,e2,_,ws⟩:=DataW.trod_string Try.underlying9 h2
   obtain⟨t,e4,_,wt⟩:=DataW.trod_string Try.underlying9 h4
   obtain⟨n,rfl,hn⟩:=RX wz
   obtain⟨lo,hi⟩:=HY wk
   obtain⟨pf,fs,cf,e3,lf,ff,mf,mf'⟩:=EV (f:=fieldDats) (F:=fun f:Int×Vl=>(-9223372036854775808<=f.1/\f.1<9223372036854775808)/\f.2.Fine) Try.underlying23 (by omega) NR BY (fun n hn cs x hx=>by
    obtain⟨zs,q,rfl,_,hzl,hql,hg⟩:=DataW.trod_struct Try.underlying97 hx
    rw[NR]at hzl
    match cs,hzl,zs,hql with
    | d0::ds,hds,[u0,u1],_=>
     have hds:ds.length=7:=by simpa using hds
     have g0:DataW.trod enc Try.prog w base spare held q 3 [d0]=some u0:=by simpa[ER]using hg 0 _ rfl
     have g1:DataW.trod enc Try.prog w base spare held q 27 ds=some u1:=by
      have:=hg 1 _ rfl
      change DataW.trod _ _ _ _ _ _ _ 27 (ds.take (Try.prog.cellsOf 27))=some u1 at this
      rw[DQ]at this
      rwa [List.take_of_length_le (by omega)]at this
     obtain⟨b,e,_,wb⟩:=DataW.trod_int Try.underlying3 g0
     obtain⟨v,hv,hV⟩:=ih q (by omega) ds u1 g1
     simp only[List.cons.injEq,and_true]at e
     subst e
     exact⟨(b,v),.cons (.cell _) hv,HY wb,hV⟩) h3
   obtain⟨pl,ls,cl,e5,ll,fl,ml,ml'⟩:=EV (f:=Vl.dats) (F:=Vl.Fine) Try.underlying24 (by omega) DQ Vl.dats_len (fun n hn cs x hx=>ih n (by omega) cs x hx) h5
   obtain⟨pp,ps,cp,e6,lp,fp,mp,mp'⟩:=EV (f:=pairDats) (F:=fun p:Vl×Vl=>p.1.Fine/\p.2.Fine) Try.underlying25 (by omega) OF BT (fun n hn cs x hx=>by
    obtain⟨zs,q,rfl,_,hzl,hql,hg⟩:=DataW.trod_struct Try.underlying101 hx
    rw[OF]at hzl
    match zs,hql with
    | [u0,u1],_=>
     have g0:=hg 0 _ rfl
     have g1:=hg 1 _ rfl
     change DataW.trod _ _ _ _ _ _ _ 27 (cs.take (Try.prog.cellsOf 27))=some u0 at g0
     change DataW.trod _ _ _ _ _ _ _ 27 ((cs.drop 7).take (Try.prog.cellsOf 27))=some u1 at g1
     rw[DQ]at g0 g1
     obtain⟨a,ha,hA⟩:=ih q (by omega) _ u0 g0
     obtain⟨b,hb,hB⟩:=ih q (by omega) _ u1 g1
     refine⟨(a,b),?_,hA,hB⟩
     have:=ha.append hb
     rw[List.take_of_length_le (l:=cs.drop 7) (by rw[List.length_drop];omega),List.take_append_drop]at this
     exact this) h6
   simp only[List.cons.injEq,and_true]at e0 e1 e2 e3 e4 e5 e6
   subst e0 e1 e2 e3 e4 e5 e6
   refine⟨.mk k n s.data.toList fs t.data.toList ls ps,?_,.mk _ lo hi hn (by show s.data.toList.length<=maxLen;simpa using ws) (by show t.data.toList.length<=maxLen;simpa using wt) (by show fs.length<=_;omega) (by show ls.length<=_;omega) (by show ps.length<=_;omega) (fun f hf=>(ff f hf).1) (fun f hf=>(ff f hf).2) fl (fun p hp=>(fp p hp).1) (fun p hp=>(fp p hp).2)⟩
   have:=Vl.shut (v:=.mk k n s.data.toList fs t.data.toList ls ps) lf ll lp
   unfold ME at this
   rw[Vl.text_mk,Vl.rest_mk,G8,G8]at this
   exact this
end
end
end Go.Proofs.Ytecfdcdkkgmkpaa
