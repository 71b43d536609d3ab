/- Part 22. Conditions: as each theorem says. -/
import Derived.Test.YtecfdcdkkgmkpaaIT21
import Derived.Test.YtecfdcdkkgmkpaaProg
set_option maxRecDepth 100000
namespace Go.Proofs.Ytecfdcdkkgmkpaa
open Go.RowKit
def tdw:List Stp->List Stp->List Stp->List Stp
 | t,p,[]=>t++p
 | t,p,s::l=>if s.1.1=2 then tdw (t++[s]) p l else if s.1.1=3 then tdw t (p++[s]) l else tdw (t++p++[s]) [] l
theorem NU:∀ (l t d p:List Stp),tdw (t++d) p l=t++tdy d p l
 | [],t,d,p=>by simp[tdw,tdy]
 | s::l,t,d,p=>by
  rw[tdw,tdy]
  split
  ·rw[List.append_assoc,NU l]
  split
  ·rw[NU l]
  ·have:=NU l (t++d++p++[s]) [] []
   rw[List.append_nil]at this
   rw[this]
   simp
theorem W2(l:List Stp):tdw [] [] l=tdy [] [] l:=NU l [] [] []
def UT(p x:Stp):Bool := !(decide (p.1.1=1)&&decide (x.1.1=1))
theorem OU{α:Type}{ok:α->Bool}{ah:α->α->Bool}{x y:α}:∀ {l:List α} {o:Option α} {k:Nat},BE ok ah o l=true->l[k]?=some y->l[k+1]?=some x->ah y x=true
 | [],_,_,_,h,_=>by simp at h
 | z::l,o,k,h,hy,hx=>by
  rw[DG]at h
  cases k with
  | zero=>
   obtain rfl:z=y:=by simpa using hy
   cases l with
   | nil=>simp at hx
   | cons u l=>
    obtain rfl:u=x:=by simpa using hx
    exact((DG.1 h.2.2).2.1 z rfl)
  | succ k=>exact OU h.2.2 (by simpa using hy) (by simpa using hx)
theorem SF{α:Type}{ok:α->Bool}{ah:α->α->Bool}{x y:α}{l:List α}{k:Nat}(h:BE ok ah none l=true)(hx:l[k]?=some x)(hy:DC l k=some y):ah y x=true:=by
 unfold DC at hy
 split at hy
 ·cases hy
 ·exact OU h hy (by rw[<- hx];congr 1;omega)
theorem W1{s:Stp}(h:C6 s=true)(hk:s.1.1=1):sK s.1.2.1=s:=by
 rcases(DS h).2 with⟨_,_,_,a,b⟩ | ⟨k,_⟩ | ⟨k,_⟩
 ·obtain⟨⟨a1,a2,a3⟩,a4⟩:=s
  simp only at hk a b
  subst hk a b
  rfl
 ·omega
 ·omega
theorem SI{t p:List Stp}{x:Stp}{q:Prop}(hx:x.1.1≠1)(hp:∀ s∈p,s.1.1=3)(h:JE ((t++[x])++p)=1):q:=by
 exfalso
 rcases List.eq_nil_or_concat p with rfl | ⟨m,y,rfl⟩
 ·rw[List.append_nil,FN]at h
  exact hx h
 ·rw[List.concat_eq_append]at h hp
  rw[<- List.append_assoc,FN]at h
  have:=hp y (by simp)
  omega
theorem UU{p:List Stp}{x:Stp}(hp:∀ s∈p,s.1.1=3)(hx:x.1.1=3):∀ s∈p++[x],s.1.1=3:=fun s hs=>by
 rcases List.mem_append.1 hs with h | h
 ·exact hp s h
 ·rw[List.mem_singleton.1 h]
  exact hx
abbrev stB(x:Stp):BL:=[(6,⟨76,bcs (esd x)⟩)]
theorem R6(t p:List Stp):t.length+p.length=(t++p).length:=List.length_append.symm
theorem N0(t p:List Stp):t.flatMap BF++p.flatMap BF=(t++p).flatMap BF:=List.flatMap_append.symm
theorem QO(t:List Stp)(x:Stp):t.length+1=(t++[x]).length:=by simp
theorem NI(t:List Stp)(x:Stp):t.flatMap BF++esd x=(t++[x]).flatMap BF:=(HW t x).symm
set_option maxHeartbeats 4000000 in
theorem W5(l:List Stp)(hl:l.length<=80)(hs:∀ s∈l,C6 s=true)(hn:BE (fun _=>true) UT none l=true):EF Try.prog [] 25 [.one (.row 30 l.length (l.flatMap BF))] (.part (.one (.row 30 (tdy [] [] l).length ((tdy [] [] l).flatMap BF)))):=by
 refine AF 53 Try.func25 rfl rfl rfl fun w D=>?_
 try refine A1 ?_
 refine A0 (AC rfl rfl rfl rfl rfl .nil) ?_
 try refine A1 ?_
 refine A0 (AC rfl rfl rfl rfl rfl (AC rfl rfl rfl rfl rfl .nil)) ?_
 try refine A1 ?_
 refine ES 3 1000 76 30 rfl rfl rfl ?_
 refine ES 4 1001 76 30 rfl rfl rfl ?_
 refine A0 (A8 rfl rfl rfl rfl rfl (A3 rfl rfl rfl (AW rfl (kn rfl) sle_29) (A8 rfl rfl rfl rfl rfl .nil))) ?_
 try refine A1 ?_
 refine BG (ι:={ q:Nat×List Stp×List Stp // q.1<=l.length/\tdw q.2.1 q.2.2 (l.drop q.1)=tdy [] [] l/\q.2.1.length+q.2.2.length<=q.1/\(∀ s∈q.2.2,s.1.1=3)/\(JE (q.2.1++q.2.2)=1 -> ∃ y,DC l q.1=some y/\y.1.1=1) })
  (fun q=>[(3,.own 1000),(4,.own 1001),(7,.part (.one (.row 30 l.length (l.flatMap BF)))),(8,.is (.int .i64 (l.length:Int))),(9,.is (.int .i64 (q.1.1:Int)))])
  (fun _=>[]) (fun q=>[(1000,sR q.1.2.1),(1001,sR q.1.2.2)]) (fun q=>l.length-q.1.1) ⟨(0,[],[]),Nat.zero_le _,W2 l,Nat.le_refl _,(fun _ h=>by cases h),(fun h=>by cases h)⟩
  (fun K=>AN ⟨s_t,s_t,s_t,s_t,s_t,trivial⟩ trivial ⟨rfl,rfl,trivial⟩) ?_
 rintro⟨⟨k,t,p⟩,hk,hw,hlen,hp3,hlast⟩
 dsimp only at hk hw hlen hp3 hlast ⊢
 try refine A1 ?_
 refine A0 (A3 rfl rfl rfl (A9 rfl (kn rfl) (kn rfl) BJ) .nil) ?_
 try refine A1 ?_
 refine AE rfl (fun h=>?_) (fun h=>?_)
 ·have hlt:k<l.length:=by have:=of_decide_eq_true h;omega
  obtain⟨x,hx⟩:∃ x,l[k]?=some x:=⟨_,List.getElem?_eq_getElem hlt⟩
  have mx:=List.mem_of_getElem? hx
  have hsx:=hs x mx
  have hcx:=(DS hsx).2
  rw[BQ hx,tdw]at hw
  have stays:∀ q:List Stp,x.1.1≠1->JE (q++[x])=1 -> ∃ y,DC l (k+1)=some y/\y.1.1=1:=fun q h1 h2=>absurd ((FN q x).symm.trans h2) h1
  try refine A1 ?_
  refine AI ?_
  refine AK (AQ rfl (kn rfl) (kn rfl) (by omega) hx C2 sle_29 esz_29 (BX x)) ?_
  refine AK (AS rfl (kn rfl) agg_76 sz_76) ?_
  refine BD 6 [.is (.int .i64 0),.is (.int .i64 0),.is (.int .i64 0),.is (.int .u64 0),.is (.string ⟨#[]⟩),.is (.slice none 0 0),.is (.string ⟨#[]⟩),.is (.slice none 0 0),.is (.slice none 0 0),.is (.int .i64 0),.is (.int .i64 0),.is (.int .u64 0),.is (.string ⟨#[]⟩),.is (.slice none 0 0),.is (.string ⟨#[]⟩),.is (.slice none 0 0),.is (.slice none 0 0),.is (.int .i64 0),.is (.int .u64 0),.is (.string ⟨#[]⟩),.is (.slice none 0 0),.is (.string ⟨#[]⟩),.is (.slice none 0 0),.is (.slice none 0 0),.is (.slice none 0 0),.is (.bool false),.is (.string ⟨#[]⟩),.is (.string ⟨#[]⟩),.is (.slice none 0 0),.is (.slice none 0 0)] rfl rfl rfl rfl zr_76 (fun w D M V=>⟨rfl,fun j x v h1 h2=>BC _ h1 h2 rfl⟩) rfl rfl rfl rfl ?_
  refine B6 rfl rfl rfl (kn rfl) rfl (kn rfl) rfl rfl sz_76 ?_
  refine AH ?_
  try refine A1 ?_
  refine AI ?_
  refine AK (AB (ds:=[_,_,_,_,_,_,_,_,_,_,_,_,_,_,_,_,_,_,_,_,_,_,_,_,_,_,_,_,_,_]) 30 rfl (kn rfl) rfl rfl agg_76 sz_76 rfl) ?_
  refine AK (AG rfl (by kernel_rfl) (TU x hsx) ⟨(kn rfl),trivial⟩) ?_
  refine B6 rfl rfl rfl (kn rfl) rfl (kn rfl) rfl rfl sz_76 ?_
  refine AH ?_
  try refine A1 ?_
  refine A0 (A3 rfl rfl rfl (A4 rfl (kn rfl) off_76_0) (A3 rfl rfl rfl (A5 rfl (kn rfl) rfl rfl one_3) .nil)) ?_
  try refine A1 ?_
  try refine A1 ?_
  refine A0 (A3 rfl rfl rfl (A9 rfl (kn rfl) (kn rfl) AL) (AC rfl rfl rfl rfl rfl .nil)) ?_
  try refine A1 ?_
  refine AE rfl (fun c1=>?_) (fun c1=>?_)
  ·have k1:=of_decide_eq_true c1
   have hnl:JE (t++p)≠1:=fun h1=>by
    obtain⟨y,hy,hy1⟩:=hlast h1
    have:=SF hn hx hy
    unfold UT at this
    rw[hy1,k1]at this
    cases this
   have hke:=V4 (t++p) x.1.2.1 (by simp;omega) hnl
   rw[W1 hsx k1]at hke
   rw[if_neg (by omega),if_neg (by omega)]at hw
   try refine A1 ?_
   refine AN (T':=[(3,.own 1000),(4,.own 1001),(6,.box 6 0),(7,.part (.one (.row 30 l.length (l.flatMap BF)))),(8,.is (.int .i64 (l.length:Int))),(9,.is (.int .i64 (k:Int)))]) (B':=stB x) (R':=[(1000,sR t),(1001,sR p)]) ⟨s_t,s_t,s_t,s_t,s_t,s_t,trivial⟩ ⟨s_b,trivial⟩ ⟨rfl,rfl,trivial⟩ ?_
   refine GS 10 [[],[],[0,1],[],[3],[2,4,2],[],[6],[5,5,0,1,2,3,4,5],[7,8,0,1,2,3,4,5,6,7,8]] [[false,false,false,false,false,false,false,false,false,false],[true,false,false,false,false,false,false,false,false,false],[false,true,false,false,false,false,false,false,false,false],[false,false,false,true,false,false,false,false,false,false],[false,false,false,false,false,false,true,false,false,false],[true,true,false,false,false,false,false,false,false,false],[true,false,false,true,false,false,false,false,false,false],[true,false,false,false,false,false,true,false,false,false],[false,true,false,true,false,false,false,false,false,false],[false,true,false,false,false,false,true,false,false,false],[false,false,false,true,true,false,false,false,false,false],[false,false,false,true,false,false,true,false,false,false],[false,false,false,false,false,false,true,true,false,false],[true,true,true,false,false,false,false,false,false,false],[true,true,false,true,false,false,false,false,false,false],[true,true,false,false,false,false,true,false,false,false],[true,false,false,true,true,false,false,false,false,false],[true,false,false,true,false,false,true,false,false,false],[true,false,false,false,false,false,true,true,false,false],[false,true,false,true,true,false,false,false,false,false],[false,true,false,true,false,false,true,false,false,false],[false,true,false,false,false,false,true,true,false,false],[false,false,false,true,true,false,true,false,false,false],[false,false,false,true,false,false,true,true,false,false],[true,true,true,true,false,false,false,false,false,false],[true,true,true,false,false,false,true,false,false,false],[true,true,false,true,true,false,false,false,false,false],[true,true,false,true,false,false,true,false,false,false],[true,true,false,false,false,false,true,true,false,false],[true,false,false,true,true,false,true,false,false,false],[true,false,false,true,false,false,true,true,false,false],[false,true,false,true,true,false,true,false,false,false],[false,true,false,true,false,false,true,true,false,false],[false,false,false,true,true,false,true,true,false,false],[true,true,true,true,true,false,false,false,false,false],[true,true,true,true,false,false,true,false,false,false],[true,true,true,false,false,false,true,true,false,false],[true,true,false,true,true,false,true,false,false,false],[true,true,false,true,false,false,true,true,false,false],[true,false,false,true,true,false,true,true,false,false],[false,true,false,true,true,false,true,true,false,false],[true,true,true,true,true,true,false,false,false,false],[true,true,true,true,true,false,true,false,false,false],[true,true,true,true,false,false,true,true,false,false],[true,true,false,true,true,false,true,true,false,false],[true,true,true,true,true,true,true,false,false,false],[true,true,true,true,true,true,false,false,true,false],[true,true,true,true,true,false,true,true,false,false],[true,true,true,true,true,true,true,true,false,false],[true,true,true,true,true,true,true,false,true,false],[true,true,true,true,true,true,true,true,true,false],[true,true,true,true,true,true,true,true,true,true]] [([false,false,false,false,false,false,false,false,false,false],0),([false,false,false,false,false,false,false,false,false,false],1),([false,false,false,false,false,false,false,false,false,false],3),([false,false,false,false,false,false,false,false,false,false],6),([true,false,false,false,false,false,false,false,false,false],1),([true,false,false,false,false,false,false,false,false,false],3),([true,false,false,false,false,false,false,false,false,false],6),([false,true,false,false,false,false,false,false,false,false],0),([false,true,false,false,false,false,false,false,false,false],3),([false,true,false,false,false,false,false,false,false,false],6),([false,false,false,true,false,false,false,false,false,false],0),([false,false,false,true,false,false,false,false,false,false],1),([false,false,false,true,false,false,false,false,false,false],4),([false,false,false,true,false,false,false,false,false,false],6),([false,false,false,false,false,false,true,false,false,false],0),([false,false,false,false,false,false,true,false,false,false],1),([false,false,false,false,false,false,true,false,false,false],3),([false,false,false,false,false,false,true,false,false,false],7),([true,true,false,false,false,false,false,false,false,false],2),([true,true,false,false,false,false,false,false,false,false],3),([true,true,false,false,false,false,false,false,false,false],6),([true,false,false,true,false,false,false,false,false,false],1),([true,false,false,true,false,false,false,false,false,false],4),([true,false,false,true,false,false,false,false,false,false],6),([true,false,false,false,false,false,true,false,false,false],1),([true,false,false,false,false,false,true,false,false,false],3),([true,false,false,false,false,false,true,false,false,false],7),([false,true,false,true,false,false,false,false,false,false],0),([false,true,false,true,false,false,false,false,false,false],4),([false,true,false,true,false,false,false,false,false,false],6),([false,true,false,false,false,false,true,false,false,false],0),([false,true,false,false,false,false,true,false,false,false],3),([false,true,false,false,false,false,true,false,false,false],7),([false,false,false,true,true,false,false,false,false,false],0),([false,false,false,true,true,false,false,false,false,false],1),([false,false,false,true,true,false,false,false,false,false],6),([false,false,false,true,false,false,true,false,false,false],0),([false,false,false,true,false,false,true,false,false,false],1),([false,false,false,true,false,false,true,false,false,false],4),([false,false,false,true,false,false,true,false,false,false],7),([false,false,false,false,false,false,true,true,false,false],0),([false,false,false,false,false,false,true,true,false,false],1),([false,false,false,false,false,false,true,true,false,false],3),([true,true,true,false,false,false,false,false,false,false],3),([true,true,true,false,false,false,false,false,false,false],6),([true,true,false,true,false,false,false,false,false,false],2),([true,true,false,true,false,false,false,false,false,false],4),([true,true,false,true,false,false,false,false,false,false],6),([true,true,false,false,false,false,true,false,false,false],2),([true,true,false,false,false,false,true,false,false,false],3),([true,true,false,false,false,false,true,false,false,false],7),([true,false,false,true,true,false,false,false,false,false],1),([true,false,false,true,true,false,false,false,false,false],6),([true,false,false,true,false,false,true,false,false,false],1),([true,false,false,true,false,false,true,false,false,false],4),([true,false,false,true,false,false,true,false,false,false],7),([true,false,false,false,false,false,true,true,false,false],1),([true,false,false,false,false,false,true,true,false,false],3),([false,true,false,true,true,false,false,false,false,false],0),([false,true,false,true,true,false,false,false,false,false],6),([false,true,false,true,false,false,true,false,false,false],0),([false,true,false,true,false,false,true,false,false,false],4),([false,true,false,true,false,false,true,false,false,false],7),([false,true,false,false,false,false,true,true,false,false],0),([false,true,false,false,false,false,true,true,false,false],3),([false,false,false,true,true,false,true,false,false,false],0),([false,false,false,true,true,false,true,false,false,false],1),([false,false,false,true,true,false,true,false,false,false],7),([false,false,false,true,false,false,true,true,false,false],0),([false,false,false,true,false,false,true,true,false,false],1),([false,false,false,true,false,false,true,true,false,false],4),([true,true,true,true,false,false,false,false,false,false],4),([true,true,true,true,false,false,false,false,false,false],6),([true,true,true,false,false,false,true,false,false,false],3),([true,true,true,false,false,false,true,false,false,false],7),([true,true,false,true,true,false,false,false,false,false],2),([true,true,false,true,true,false,false,false,false,false],6),([true,true,false,true,false,false,true,false,false,false],2),([true,true,false,true,false,false,true,false,false,false],4),([true,true,false,true,false,false,true,false,false,false],7),([true,true,false,false,false,false,true,true,false,false],2),([true,true,false,false,false,false,true,true,false,false],3),([true,false,false,true,true,false,true,false,false,false],1),([true,false,false,true,true,false,true,false,false,false],7),([true,false,false,true,false,false,true,true,false,false],1),([true,false,false,true,false,false,true,true,false,false],4),([false,true,false,true,true,false,true,false,false,false],0),([false,true,false,true,true,false,true,false,false,false],7),([false,true,false,true,false,false,true,true,false,false],0),([false,true,false,true,false,false,true,true,false,false],4),([false,false,false,true,true,false,true,true,false,false],0),([false,false,false,true,true,false,true,true,false,false],1),([true,true,true,true,true,false,false,false,false,false],5),([true,true,true,true,true,false,false,false,false,false],6),([true,true,true,true,false,false,true,false,false,false],4),([true,true,true,true,false,false,true,false,false,false],7),([true,true,true,false,false,false,true,true,false,false],3),([true,true,false,true,true,false,true,false,false,false],2),([true,true,false,true,true,false,true,false,false,false],7),([true,true,false,true,false,false,true,true,false,false],2),([true,true,false,true,false,false,true,true,false,false],4),([true,false,false,true,true,false,true,true,false,false],1),([false,true,false,true,true,false,true,true,false,false],0),([true,true,true,true,true,true,false,false,false,false],6),([true,true,true,true,true,true,false,false,false,false],8),([true,true,true,true,true,false,true,false,false,false],5),([true,true,true,true,true,false,true,false,false,false],7),([true,true,true,true,false,false,true,true,false,false],4),([true,true,false,true,true,false,true,true,false,false],2),([true,true,true,true,true,true,true,false,false,false],7),([true,true,true,true,true,true,true,false,false,false],8),([true,true,true,true,true,true,false,false,true,false],6),([true,true,true,true,true,false,true,true,false,false],5),([true,true,true,true,true,true,true,true,false,false],8),([true,true,true,true,true,true,true,false,true,false],7),([true,true,true,true,true,true,true,true,true,false],9)] [(9,4,.via 1001 (QF 0)),(8,3,.own 1000),(2,3,.junk),(5,24,.own 1000),(5,21,.junk),(2,21,.own 1000),(2,19,.junk),(0,19,.own 1000),(1,20,.own 1001),(3,22,.box 6 1),(4,23,.is (.int .i64 x.1.2.1)),(6,25,.own 1001),(7,26,.via 1001 (QF 0))] [] [(5,1000,sR (t++p++[x])),(2,1000,sR (t++p))] [(3,.own 1000),(4,.own 1001),(6,.box 6 0),(7,.part (.one (.row 30 l.length (l.flatMap BF)))),(8,.is (.int .i64 (l.length:Int))),(9,.is (.int .i64 (k:Int)))] [(6,⟨76,bcs (esd x)⟩)] [(1000,sR t),(1001,sR p)] (by kernel_rfl) rfl C8 (by kernel_rfl) (by decide) (fun K h=>h) ?_ ?_
   ·repeat' first
     | exact trivial
     | refine And.intro ?_ ?_
    all_goals
     intro K hK
     replace hK:=RY (RI (VU hK))
     first
      | (refine B8 (i:=0) rfl (fun h=>h) ?_;refine BM ?_;refine AH ?_;refine A1 ?_;exact AV hK (by repeat' first | exact trivial | refine And.intro s_t ?_) (by repeat' first | exact trivial | refine And.intro s_b ?_) (by repeat' first | exact trivial | refine And.intro rfl ?_))
      | (refine B8 (i:=1) rfl (fun h=>h) ?_;refine BM ?_;refine AH ?_;refine A1 ?_;exact AV hK (by repeat' first | exact trivial | refine And.intro s_t ?_) (by repeat' first | exact trivial | refine And.intro s_b ?_) (by repeat' first | exact trivial | refine And.intro rfl ?_))
      | (refine B8 (i:=2) rfl (fun h=>h) ?_;refine J4 rfl rfl rfl rfl (kn rfl) rfl (kn rfl) rfl sl_29 ap_29 rfl (IP p) (by first | omega | (dsimp only;omega)) (by first | omega | (dsimp only;omega)) ?_;refine DM (R6 t p) (N0 t p) ?_;refine AH ?_;refine A1 ?_;exact AV hK (by repeat' first | exact trivial | refine And.intro s_t ?_) (by repeat' first | exact trivial | refine And.intro s_b ?_) (by repeat' first | exact trivial | refine And.intro rfl ?_))
      | (refine B8 (i:=3) rfl (fun h=>h) ?_;refine AK (A4 rfl (kn rfl) off_76_1) ?_;refine AH ?_;refine A1 ?_;exact AV hK (by repeat' first | exact trivial | refine And.intro s_t ?_) (by repeat' first | exact trivial | refine And.intro s_b ?_) (by repeat' first | exact trivial | refine And.intro rfl ?_))
      | (refine B8 (i:=4) rfl (fun h=>h) ?_;refine AK (A5 rfl (kn rfl) rfl rfl one_3) ?_;refine AH ?_;refine A1 ?_;exact AV hK (by repeat' first | exact trivial | refine And.intro s_t ?_) (by repeat' first | exact trivial | refine And.intro s_b ?_) (by repeat' first | exact trivial | refine And.intro rfl ?_))
      | (refine B8 (i:=5) rfl (fun h=>h) ?_;refine GZ rfl rfl rfl rfl (by kernel_rfl) (hke) trivial ⟨rfl,trivial⟩ ⟨(kn rfl),⟨(kn rfl),trivial⟩⟩ (YK.tidy) ?_;rintro _ _ _ ⟨rfl,rfl,rfl⟩;refine AH ?_;refine A1 ?_;exact AV hK (by repeat' first | exact trivial | refine And.intro s_t ?_) (by repeat' first | exact trivial | refine And.intro s_b ?_) (by repeat' first | exact trivial | refine And.intro rfl ?_))
      | (refine B8 (i:=6) rfl (fun h=>h) ?_;refine BM ?_;refine AH ?_;refine A1 ?_;exact AV hK (by repeat' first | exact trivial | refine And.intro s_t ?_) (by repeat' first | exact trivial | refine And.intro s_b ?_) (by repeat' first | exact trivial | refine And.intro rfl ?_))
      | (refine B8 (i:=7) rfl (fun h=>h) ?_;refine AK (MK rfl (kn rfl) rfl (kn rfl) ⟨Int.le_refl _,Int.natCast_nonneg _⟩ sle_29 esz_29) ?_;refine AH ?_;refine A1 ?_;exact AV hK (by repeat' first | exact trivial | refine And.intro s_t ?_) (by repeat' first | exact trivial | refine And.intro s_b ?_) (by repeat' first | exact trivial | refine And.intro rfl ?_))
      | (refine B8 (i:=8) rfl (fun h=>h) ?_;refine C7 ?_;refine AH ?_;refine A1 ?_;exact AV hK (by repeat' first | exact trivial | refine And.intro s_t ?_) (by repeat' first | exact trivial | refine And.intro s_b ?_) (by repeat' first | exact trivial | refine And.intro rfl ?_))
      | (refine B8 (i:=9) rfl (fun h=>h) ?_;refine C7 ?_;refine AH ?_;refine A1 ?_;exact AV hK (by repeat' first | exact trivial | refine And.intro s_t ?_) (by repeat' first | exact trivial | refine And.intro s_b ?_) (by repeat' first | exact trivial | refine And.intro rfl ?_))
   try refine A1 ?_
   refine OQ (t:=4) (r:=1001) rfl rfl ?_
   refine A0 (A3 rfl rfl rfl (A9 rfl (kn rfl) (kn rfl) (AO (by first | omega | (dsimp only;omega)))) (A8 rfl rfl rfl rfl rfl .nil)) ?_
   try refine A1 ?_
   refine AT ⟨(k+1,t++p++[x],[]),by dsimp only;omega,by dsimp only;rw[<- hw,hw],by simp only[List.length_append,List.length_cons,List.length_nil];omega,(fun _ h=>(by cases h)),(fun _=>⟨x,KW hx,k1⟩)⟩ (by dsimp only;omega) (fun K=>AN ⟨s_t,s_t,s_t,s_t,s_t,trivial⟩ trivial ⟨rfl,rfl,trivial⟩)
  have n1:=of_decide_eq_false c1
  try refine A1 ?_
  refine A0 (A3 rfl rfl rfl (A9 rfl (kn rfl) (kn rfl) AL) (AC rfl rfl rfl rfl rfl .nil)) ?_
  try refine A1 ?_
  refine AE rfl (fun c2=>?_) (fun c2=>?_)
  ·have k2:=of_decide_eq_true c2
   rw[if_pos k2]at hw
   try refine A1 ?_
   refine AI ?_
   refine BM ?_
   refine AK (AB (ds:=[_,_,_,_,_,_,_,_,_,_,_,_,_,_,_,_,_,_,_,_,_,_,_,_,_,_,_,_,_,_]) 30 rfl (kn rfl) rfl rfl agg_76 sz_76 rfl) ?_
   refine AK (DO (ds:=[_,_,_,_,_,_,_,_,_,_,_,_,_,_,_,_,_,_,_,_,_,_,_,_,_,_,_,_,_,_]) [(0,_)] rfl ⟨rfl,(kn rfl),trivial⟩ rfl sl_29 sz_76 zr_76 (fun w D=>.cons (.cell _) (.cons (.cell _) (.cons (.cell _) (.cons (.cell _) (.cons (.cell _) (.cons (.cell _) (.cons (.cell _) (.cons (.cell _) (.cons (.cell _) (.cons (.cell _) (.cons (.cell _) (.cons (.cell _) (.cons (.cell _) (.cons (.cell _) (.cons (.cell _) (.cons (.cell _) (.cons (.cell _) (.cons (.cell _) (.cons (.cell _) (.cons (.cell _) (.cons (.cell _) (.cons (.cell _) (.cons (.cell _) (.cons (.cell _) (.cons (.cell _) (.cons (.cell _) (.cons (.cell _) (.cons (.cell _) (.cons (.cell _) (.cons (.cell _) (.nil _ _))))))))))))))))))))))))))))))) rfl rfl rfl rfl rfl) ?_
   refine EL rfl rfl rfl rfl (kn rfl) rfl (kn rfl) sl_29 ap_29 rfl rfl (by first | omega | (dsimp only;omega)) (by first | omega | (dsimp only;omega)) ?_
   refine C7 ?_
   refine AH ?_
   try refine A1 ?_
   refine DM (QO t x) (NI t x) ?_
   refine A0 (A3 rfl rfl rfl (A9 rfl (kn rfl) (kn rfl) (AO (by first | omega | (dsimp only;omega)))) (A8 rfl rfl rfl rfl rfl .nil)) ?_
   try refine A1 ?_
   refine AT ⟨(k+1,t++[x],p),by dsimp only;omega,by dsimp only;rw[<- hw,hw],by simp only[List.length_append,List.length_cons,List.length_nil];omega,hp3,(fun h2=>SI (by omega) hp3 h2)⟩ (by dsimp only;omega) (fun K=>AN ⟨s_t,s_t,s_t,s_t,s_t,trivial⟩ trivial ⟨rfl,rfl,trivial⟩)
  have n2:=of_decide_eq_false c2
  rw[if_neg n2]at hw
  try refine A1 ?_
  refine A0 (A3 rfl rfl rfl (A9 rfl (kn rfl) (kn rfl) AL) (AC rfl rfl rfl rfl rfl .nil)) ?_
  try refine A1 ?_
  refine AE rfl (fun c3=>?_) (fun c3=>?_)
  ·have k3:=of_decide_eq_true c3
   rw[if_pos k3]at hw
   try refine A1 ?_
   refine AI ?_
   refine BM ?_
   refine AK (AB (ds:=[_,_,_,_,_,_,_,_,_,_,_,_,_,_,_,_,_,_,_,_,_,_,_,_,_,_,_,_,_,_]) 30 rfl (kn rfl) rfl rfl agg_76 sz_76 rfl) ?_
   refine AK (DO (ds:=[_,_,_,_,_,_,_,_,_,_,_,_,_,_,_,_,_,_,_,_,_,_,_,_,_,_,_,_,_,_]) [(0,_)] rfl ⟨rfl,(kn rfl),trivial⟩ rfl sl_29 sz_76 zr_76 (fun w D=>.cons (.cell _) (.cons (.cell _) (.cons (.cell _) (.cons (.cell _) (.cons (.cell _) (.cons (.cell _) (.cons (.cell _) (.cons (.cell _) (.cons (.cell _) (.cons (.cell _) (.cons (.cell _) (.cons (.cell _) (.cons (.cell _) (.cons (.cell _) (.cons (.cell _) (.cons (.cell _) (.cons (.cell _) (.cons (.cell _) (.cons (.cell _) (.cons (.cell _) (.cons (.cell _) (.cons (.cell _) (.cons (.cell _) (.cons (.cell _) (.cons (.cell _) (.cons (.cell _) (.cons (.cell _) (.cons (.cell _) (.cons (.cell _) (.cons (.cell _) (.nil _ _))))))))))))))))))))))))))))))) rfl rfl rfl rfl rfl) ?_
   refine EL rfl rfl rfl rfl (kn rfl) rfl (kn rfl) sl_29 ap_29 rfl rfl (by first | omega | (dsimp only;omega)) (by first | omega | (dsimp only;omega)) ?_
   refine C7 ?_
   refine AH ?_
   try refine A1 ?_
   refine DM (QO p x) (NI p x) ?_
   refine A0 (A3 rfl rfl rfl (A9 rfl (kn rfl) (kn rfl) (AO (by first | omega | (dsimp only;omega)))) (A8 rfl rfl rfl rfl rfl .nil)) ?_
   try refine A1 ?_
   refine AT ⟨(k+1,t,p++[x]),by dsimp only;omega,by dsimp only;rw[<- hw,hw],by simp only[List.length_append,List.length_cons,List.length_nil];omega,(UU hp3 k3),(fun h2=>stays (t++p) n1 (by rw[List.append_assoc];exact h2))⟩ (by dsimp only;omega) (fun K=>AN ⟨s_t,s_t,s_t,s_t,s_t,trivial⟩ trivial ⟨rfl,rfl,trivial⟩)
  have n3:=of_decide_eq_false c3
  rw[if_neg n3]at hw
  have k4:x.1.1=4:=by omega
  try refine A1 ?_
  refine A0 (A3 rfl rfl rfl (A9 rfl (kn rfl) (kn rfl) AL) (AC rfl rfl rfl rfl rfl .nil)) ?_
  try refine A1 ?_
  refine AE rfl (fun c4=>?_) (fun c4=>absurd k4 (of_decide_eq_false c4))
  try refine A1 ?_
  refine AN (T':=[(3,.own 1000),(4,.own 1001),(6,.box 6 0),(7,.part (.one (.row 30 l.length (l.flatMap BF)))),(8,.is (.int .i64 (l.length:Int))),(9,.is (.int .i64 (k:Int)))]) (B':=stB x) (R':=[(1000,sR t),(1001,sR p)]) ⟨s_t,s_t,s_t,s_t,s_t,s_t,trivial⟩ ⟨s_b,trivial⟩ ⟨rfl,rfl,trivial⟩ ?_
  refine GS 10 [[],[],[0,1],[],[3],[2,4,2],[],[6],[5,5,0,1,2,3,4,5],[7,8,0,1,2,3,4,5,6,7,8]] [[false,false,false,false,false,false,false,false,false,false],[true,false,false,false,false,false,false,false,false,false],[false,true,false,false,false,false,false,false,false,false],[false,false,false,true,false,false,false,false,false,false],[false,false,false,false,false,false,true,false,false,false],[true,true,false,false,false,false,false,false,false,false],[true,false,false,true,false,false,false,false,false,false],[true,false,false,false,false,false,true,false,false,false],[false,true,false,true,false,false,false,false,false,false],[false,true,false,false,false,false,true,false,false,false],[false,false,false,true,true,false,false,false,false,false],[false,false,false,true,false,false,true,false,false,false],[false,false,false,false,false,false,true,true,false,false],[true,true,true,false,false,false,false,false,false,false],[true,true,false,true,false,false,false,false,false,false],[true,true,false,false,false,false,true,false,false,false],[true,false,false,true,true,false,false,false,false,false],[true,false,false,true,false,false,true,false,false,false],[true,false,false,false,false,false,true,true,false,false],[false,true,false,true,true,false,false,false,false,false],[false,true,false,true,false,false,true,false,false,false],[false,true,false,false,false,false,true,true,false,false],[false,false,false,true,true,false,true,false,false,false],[false,false,false,true,false,false,true,true,false,false],[true,true,true,true,false,false,false,false,false,false],[true,true,true,false,false,false,true,false,false,false],[true,true,false,true,true,false,false,false,false,false],[true,true,false,true,false,false,true,false,false,false],[true,true,false,false,false,false,true,true,false,false],[true,false,false,true,true,false,true,false,false,false],[true,false,false,true,false,false,true,true,false,false],[false,true,false,true,true,false,true,false,false,false],[false,true,false,true,false,false,true,true,false,false],[false,false,false,true,true,false,true,true,false,false],[true,true,true,true,true,false,false,false,false,false],[true,true,true,true,false,false,true,false,false,false],[true,true,true,false,false,false,true,true,false,false],[true,true,false,true,true,false,true,false,false,false],[true,true,false,true,false,false,true,true,false,false],[true,false,false,true,true,false,true,true,false,false],[false,true,false,true,true,false,true,true,false,false],[true,true,true,true,true,true,false,false,false,false],[true,true,true,true,true,false,true,false,false,false],[true,true,true,true,false,false,true,true,false,false],[true,true,false,true,true,false,true,true,false,false],[true,true,true,true,true,true,true,false,false,false],[true,true,true,true,true,true,false,false,true,false],[true,true,true,true,true,false,true,true,false,false],[true,true,true,true,true,true,true,true,false,false],[true,true,true,true,true,true,true,false,true,false],[true,true,true,true,true,true,true,true,true,false],[true,true,true,true,true,true,true,true,true,true]] [([false,false,false,false,false,false,false,false,false,false],0),([false,false,false,false,false,false,false,false,false,false],1),([false,false,false,false,false,false,false,false,false,false],3),([false,false,false,false,false,false,false,false,false,false],6),([true,false,false,false,false,false,false,false,false,false],1),([true,false,false,false,false,false,false,false,false,false],3),([true,false,false,false,false,false,false,false,false,false],6),([false,true,false,false,false,false,false,false,false,false],0),([false,true,false,false,false,false,false,false,false,false],3),([false,true,false,false,false,false,false,false,false,false],6),([false,false,false,true,false,false,false,false,false,false],0),([false,false,false,true,false,false,false,false,false,false],1),([false,false,false,true,false,false,false,false,false,false],4),([false,false,false,true,false,false,false,false,false,false],6),([false,false,false,false,false,false,true,false,false,false],0),([false,false,false,false,false,false,true,false,false,false],1),([false,false,false,false,false,false,true,false,false,false],3),([false,false,false,false,false,false,true,false,false,false],7),([true,true,false,false,false,false,false,false,false,false],2),([true,true,false,false,false,false,false,false,false,false],3),([true,true,false,false,false,false,false,false,false,false],6),([true,false,false,true,false,false,false,false,false,false],1),([true,false,false,true,false,false,false,false,false,false],4),([true,false,false,true,false,false,false,false,false,false],6),([true,false,false,false,false,false,true,false,false,false],1),([true,false,false,false,false,false,true,false,false,false],3),([true,false,false,false,false,false,true,false,false,false],7),([false,true,false,true,false,false,false,false,false,false],0),([false,true,false,true,false,false,false,false,false,false],4),([false,true,false,true,false,false,false,false,false,false],6),([false,true,false,false,false,false,true,false,false,false],0),([false,true,false,false,false,false,true,false,false,false],3),([false,true,false,false,false,false,true,false,false,false],7),([false,false,false,true,true,false,false,false,false,false],0),([false,false,false,true,true,false,false,false,false,false],1),([false,false,false,true,true,false,false,false,false,false],6),([false,false,false,true,false,false,true,false,false,false],0),([false,false,false,true,false,false,true,false,false,false],1),([false,false,false,true,false,false,true,false,false,false],4),([false,false,false,true,false,false,true,false,false,false],7),([false,false,false,false,false,false,true,true,false,false],0),([false,false,false,false,false,false,true,true,false,false],1),([false,false,false,false,false,false,true,true,false,false],3),([true,true,true,false,false,false,false,false,false,false],3),([true,true,true,false,false,false,false,false,false,false],6),([true,true,false,true,false,false,false,false,false,false],2),([true,true,false,true,false,false,false,false,false,false],4),([true,true,false,true,false,false,false,false,false,false],6),([true,true,false,false,false,false,true,false,false,false],2),([true,true,false,false,false,false,true,false,false,false],3),([true,true,false,false,false,false,true,false,false,false],7),([true,false,false,true,true,false,false,false,false,false],1),([true,false,false,true,true,false,false,false,false,false],6),([true,false,false,true,false,false,true,false,false,false],1),([true,false,false,true,false,false,true,false,false,false],4),([true,false,false,true,false,false,true,false,false,false],7),([true,false,false,false,false,false,true,true,false,false],1),([true,false,false,false,false,false,true,true,false,false],3),([false,true,false,true,true,false,false,false,false,false],0),([false,true,false,true,true,false,false,false,false,false],6),([false,true,false,true,false,false,true,false,false,false],0),([false,true,false,true,false,false,true,false,false,false],4),([false,true,false,true,false,false,true,false,false,false],7),([false,true,false,false,false,false,true,true,false,false],0),([false,true,false,false,false,false,true,true,false,false],3),([false,false,false,true,true,false,true,false,false,false],0),([false,false,false,true,true,false,true,false,false,false],1),([false,false,false,true,true,false,true,false,false,false],7),([false,false,false,true,false,false,true,true,false,false],0),([false,false,false,true,false,false,true,true,false,false],1),([false,false,false,true,false,false,true,true,false,false],4),([true,true,true,true,false,false,false,false,false,false],4),([true,true,true,true,false,false,false,false,false,false],6),([true,true,true,false,false,false,true,false,false,false],3),([true,true,true,false,false,false,true,false,false,false],7),([true,true,false,true,true,false,false,false,false,false],2),([true,true,false,true,true,false,false,false,false,false],6),([true,true,false,true,false,false,true,false,false,false],2),([true,true,false,true,false,false,true,false,false,false],4),([true,true,false,true,false,false,true,false,false,false],7),([true,true,false,false,false,false,true,true,false,false],2),([true,true,false,false,false,false,true,true,false,false],3),([true,false,false,true,true,false,true,false,false,false],1),([true,false,false,true,true,false,true,false,false,false],7),([true,false,false,true,false,false,true,true,false,false],1),([true,false,false,true,false,false,true,true,false,false],4),([false,true,false,true,true,false,true,false,false,false],0),([false,true,false,true,true,false,true,false,false,false],7),([false,true,false,true,false,false,true,true,false,false],0),([false,true,false,true,false,false,true,true,false,false],4),([false,false,false,true,true,false,true,true,false,false],0),([false,false,false,true,true,false,true,true,false,false],1),([true,true,true,true,true,false,false,false,false,false],5),([true,true,true,true,true,false,false,false,false,false],6),([true,true,true,true,false,false,true,false,false,false],4),([true,true,true,true,false,false,true,false,false,false],7),([true,true,true,false,false,false,true,true,false,false],3),([true,true,false,true,true,false,true,false,false,false],2),([true,true,false,true,true,false,true,false,false,false],7),([true,true,false,true,false,false,true,true,false,false],2),([true,true,false,true,false,false,true,true,false,false],4),([true,false,false,true,true,false,true,true,false,false],1),([false,true,false,true,true,false,true,true,false,false],0),([true,true,true,true,true,true,false,false,false,false],6),([true,true,true,true,true,true,false,false,false,false],8),([true,true,true,true,true,false,true,false,false,false],5),([true,true,true,true,true,false,true,false,false,false],7),([true,true,true,true,false,false,true,true,false,false],4),([true,true,false,true,true,false,true,true,false,false],2),([true,true,true,true,true,true,true,false,false,false],7),([true,true,true,true,true,true,true,false,false,false],8),([true,true,true,true,true,true,false,false,true,false],6),([true,true,true,true,true,false,true,true,false,false],5),([true,true,true,true,true,true,true,true,false,false],8),([true,true,true,true,true,true,true,false,true,false],7),([true,true,true,true,true,true,true,true,true,false],9)] [(9,4,.via 1001 (QF 0)),(8,3,.own 1000),(2,3,.junk),(5,46,.own 1000),(5,43,.junk),(2,43,.own 1000),(2,41,.junk),(0,41,.own 1000),(1,42,.own 1001),(3,44,.part (.many (esd x))),(4,45,.part (.one (.row 30 1 (esd x)))),(6,47,.own 1001),(7,48,.via 1001 (QF 0))] [] [(5,1000,sR (t++p++[x])),(2,1000,sR (t++p))] [(3,.own 1000),(4,.own 1001),(6,.box 6 0),(7,.part (.one (.row 30 l.length (l.flatMap BF)))),(8,.is (.int .i64 (l.length:Int))),(9,.is (.int .i64 (k:Int)))] [(6,⟨76,bcs (esd x)⟩)] [(1000,sR t),(1001,sR p)] (by kernel_rfl) rfl C8 (by kernel_rfl) (by decide) (fun K h=>h) ?_ ?_
  ·repeat' first
    | exact trivial
    | refine And.intro ?_ ?_
   all_goals
    intro K hK
    replace hK:=RY (RI (VU hK))
    first
     | (refine B8 (i:=0) rfl (fun h=>h) ?_;refine BM ?_;refine AH ?_;refine A1 ?_;exact AV hK (by repeat' first | exact trivial | refine And.intro s_t ?_) (by repeat' first | exact trivial | refine And.intro s_b ?_) (by repeat' first | exact trivial | refine And.intro rfl ?_))
     | (refine B8 (i:=1) rfl (fun h=>h) ?_;refine BM ?_;refine AH ?_;refine A1 ?_;exact AV hK (by repeat' first | exact trivial | refine And.intro s_t ?_) (by repeat' first | exact trivial | refine And.intro s_b ?_) (by repeat' first | exact trivial | refine And.intro rfl ?_))
     | (refine B8 (i:=2) rfl (fun h=>h) ?_;refine J4 rfl rfl rfl rfl (kn rfl) rfl (kn rfl) rfl sl_29 ap_29 rfl (IP p) (by first | omega | (dsimp only;omega)) (by first | omega | (dsimp only;omega)) ?_;refine DM (R6 t p) (N0 t p) ?_;refine AH ?_;refine A1 ?_;exact AV hK (by repeat' first | exact trivial | refine And.intro s_t ?_) (by repeat' first | exact trivial | refine And.intro s_b ?_) (by repeat' first | exact trivial | refine And.intro rfl ?_))
     | (refine B8 (i:=3) rfl (fun h=>h) ?_;refine AK (AB (ds:=[_,_,_,_,_,_,_,_,_,_,_,_,_,_,_,_,_,_,_,_,_,_,_,_,_,_,_,_,_,_]) 30 rfl (kn rfl) rfl rfl agg_76 sz_76 rfl) ?_;refine AH ?_;refine A1 ?_;exact AV hK (by repeat' first | exact trivial | refine And.intro s_t ?_) (by repeat' first | exact trivial | refine And.intro s_b ?_) (by repeat' first | exact trivial | refine And.intro rfl ?_))
     | (refine B8 (i:=4) rfl (fun h=>h) ?_;refine AK (DO (ds:=[_,_,_,_,_,_,_,_,_,_,_,_,_,_,_,_,_,_,_,_,_,_,_,_,_,_,_,_,_,_]) [(0,_)] rfl ⟨rfl,(kn rfl),trivial⟩ rfl sl_29 sz_76 zr_76 (fun w D=>.cons (.cell _) (.cons (.cell _) (.cons (.cell _) (.cons (.cell _) (.cons (.cell _) (.cons (.cell _) (.cons (.cell _) (.cons (.cell _) (.cons (.cell _) (.cons (.cell _) (.cons (.cell _) (.cons (.cell _) (.cons (.cell _) (.cons (.cell _) (.cons (.cell _) (.cons (.cell _) (.cons (.cell _) (.cons (.cell _) (.cons (.cell _) (.cons (.cell _) (.cons (.cell _) (.cons (.cell _) (.cons (.cell _) (.cons (.cell _) (.cons (.cell _) (.cons (.cell _) (.cons (.cell _) (.cons (.cell _) (.cons (.cell _) (.cons (.cell _) (.nil _ _))))))))))))))))))))))))))))))) rfl rfl rfl rfl rfl) ?_;refine AH ?_;refine A1 ?_;exact AV hK (by repeat' first | exact trivial | refine And.intro s_t ?_) (by repeat' first | exact trivial | refine And.intro s_b ?_) (by repeat' first | exact trivial | refine And.intro rfl ?_))
     | (refine B8 (i:=5) rfl (fun h=>h) ?_;refine EL rfl rfl rfl rfl (kn rfl) rfl (kn rfl) sl_29 ap_29 rfl rfl (by simp only[List.length_append];omega) (by simp only[List.length_append];omega) ?_;refine DM (QO (t++p) x) (NI (t++p) x) ?_;refine AH ?_;refine A1 ?_;exact AV hK (by repeat' first | exact trivial | refine And.intro s_t ?_) (by repeat' first | exact trivial | refine And.intro s_b ?_) (by repeat' first | exact trivial | refine And.intro rfl ?_))
     | (refine B8 (i:=6) rfl (fun h=>h) ?_;refine BM ?_;refine AH ?_;refine A1 ?_;exact AV hK (by repeat' first | exact trivial | refine And.intro s_t ?_) (by repeat' first | exact trivial | refine And.intro s_b ?_) (by repeat' first | exact trivial | refine And.intro rfl ?_))
     | (refine B8 (i:=7) rfl (fun h=>h) ?_;refine AK (MK rfl (kn rfl) rfl (kn rfl) ⟨Int.le_refl _,Int.natCast_nonneg _⟩ sle_29 esz_29) ?_;refine AH ?_;refine A1 ?_;exact AV hK (by repeat' first | exact trivial | refine And.intro s_t ?_) (by repeat' first | exact trivial | refine And.intro s_b ?_) (by repeat' first | exact trivial | refine And.intro rfl ?_))
     | (refine B8 (i:=8) rfl (fun h=>h) ?_;refine C7 ?_;refine AH ?_;refine A1 ?_;exact AV hK (by repeat' first | exact trivial | refine And.intro s_t ?_) (by repeat' first | exact trivial | refine And.intro s_b ?_) (by repeat' first | exact trivial | refine And.intro rfl ?_))
     | (refine B8 (i:=9) rfl (fun h=>h) ?_;refine C7 ?_;refine AH ?_;refine A1 ?_;exact AV hK (by repeat' first | exact trivial | refine And.intro s_t ?_) (by repeat' first | exact trivial | refine And.intro s_b ?_) (by repeat' first | exact trivial | refine And.intro rfl ?_))
  try refine A1 ?_
  refine OQ (t:=4) (r:=1001) rfl rfl ?_
  refine A0 (A3 rfl rfl rfl (A9 rfl (kn rfl) (kn rfl) (AO (by first | omega | (dsimp only;omega)))) (A8 rfl rfl rfl rfl rfl .nil)) ?_
  try refine A1 ?_
  refine AT ⟨(k+1,t++p++[x],[]),by dsimp only;omega,by dsimp only;rw[<- hw,hw],by simp only[List.length_append,List.length_cons,List.length_nil];omega,(fun _ h=>(by cases h)),(fun h2=>stays (t++p) n1 (by rw[List.append_nil]at h2;exact h2))⟩ (by dsimp only;omega) (fun K=>AN ⟨s_t,s_t,s_t,s_t,s_t,trivial⟩ trivial ⟨rfl,rfl,trivial⟩)
 have hkl:l.length<=k:=by have:=of_decide_eq_false h;omega
 rw[List.drop_eq_nil_of_le hkl,tdw]at hw
 rw[<- hw]
 try refine A1 ?_
 refine AI ?_
 refine BM ?_
 refine BM ?_
 refine J4 rfl rfl rfl rfl (kn rfl) rfl (kn rfl) rfl sl_29 ap_29 rfl (IP p) (by first | omega | (dsimp only;omega)) (by first | omega | (dsimp only;omega)) ?_
 refine DM (R6 t p) (N0 t p) ?_
 refine C7 ?_
 refine AH ?_
 try refine A1 ?_
 refine DU 2 1000 rfl rfl rfl ?_
 exact A7 rfl rfl (.tmp (kn rfl) (.nil)) (Imp.of_eq rfl) rfl
end Go.Proofs.Ytecfdcdkkgmkpaa
