/- Part 20. Conditions: as each theorem says. -/
import Derived.Test.YtecfdcdkkgmkpaaIS19
import Derived.Test.YtecfdcdkkgmkpaaProg
set_option maxRecDepth 100000
namespace Go.Proofs.Ytecfdcdkkgmkpaa
open Go.RowKit
def tdw:List Stp->List Stp->List Stp->List Stp
 | t,p,[]=>t++p
 | t,p,s::l=>if s.1.1=2 then tdw (t++[s]) p l else if s.1.1=3 then tdw t (p++[s]) l else tdw (t++p++[s]) [] l
theorem M9:∀ (l t d p:List Stp),tdw (t++d) p l=t++tdy d p l
 | [],t,d,p=>by simp[tdw,tdy]
 | s::l,t,d,p=>by
  rw[tdw,tdy]
  split
  ·rw[List.append_assoc,M9 l]
  split
  ·rw[M9 l]
  ·have:=M9 l (t++d++p++[s]) [] []
   rw[List.append_nil]at this
   rw[this]
   simp
theorem TK(l:List Stp):tdw [] [] l=tdy [] [] l:=M9 l [] [] []
def SI(p x:Stp):Bool := !(decide (p.1.1=1)&&decide (x.1.1=1))
theorem O0{α:Type}{ok:α->Bool}{ah:α->α->Bool}{x y:α}:∀ {l:List α} {o:Option α} {k:Nat},B7 ok ah o l=true->l[k]?=some y->l[k+1]?=some x->ah y x=true
 | [],_,_,_,h,_=>by simp at h
 | z::l,o,k,h,hy,hx=>by
  rw[DD]at h
  cases k with
  | zero=>
   obtain rfl:z=y:=by simpa using hy
   cases l with
   | nil=>simp at hx
   | cons u l=>
    obtain rfl:u=x:=by simpa using hx
    exact((DD.1 h.2.2).2.1 z rfl)
  | succ k=>exact O0 h.2.2 (by simpa using hy) (by simpa using hx)
theorem QP{α:Type}{ok:α->Bool}{ah:α->α->Bool}{x y:α}{l:List α}{k:Nat}(h:B7 ok ah none l=true)(hx:l[k]?=some x)(hy:D4 l k=some y):ah y x=true:=by
 unfold D4 at hy
 split at hy
 ·cases hy
 ·exact O0 h hy (by rw[<- hx];congr 1;omega)
theorem SS{s:Stp}(h:BS s=true)(hk:s.1.1=1):sK s.1.2.1=s:=by
 rcases(DC h).2 with⟨_,_,_,a,b⟩ | ⟨k,_⟩ | ⟨k,_⟩
 ·obtain⟨⟨a1,a2,a3⟩,a4⟩:=s
  simp only at hk a b
  subst hk a b
  rfl
 ·omega
 ·omega
theorem RB{t p:List Stp}{x:Stp}{q:Prop}(hx:x.1.1≠1)(hp:∀ s∈p,s.1.1=3)(h:IW ((t++[x])++p)=1):q:=by
 exfalso
 rcases List.eq_nil_or_concat p with rfl | ⟨m,y,rfl⟩
 ·rw[List.append_nil,F7]at h
  exact hx h
 ·rw[List.concat_eq_append]at h hp
  rw[<- List.append_assoc,F7]at h
  have:=hp y (by simp)
  omega
theorem S3{p:List Stp}{x:Stp}(hp:∀ s∈p,s.1.1=3)(hx:x.1.1=3):∀ s∈p++[x],s.1.1=3:=fun s hs=>by
 rcases List.mem_append.1 hs with h | h
 ·exact hp s h
 ·rw[List.mem_singleton.1 h]
  exact hx
abbrev stB(x:Stp):BL:=[(6,⟨76,bcs (esd x)⟩)]
theorem P7(t p:List Stp):t.length+p.length=(t++p).length:=List.length_append.symm
theorem MJ(t p:List Stp):t.flatMap BC++p.flatMap BC=(t++p).flatMap BC:=List.flatMap_append.symm
theorem PJ(t:List Stp)(x:Stp):t.length+1=(t++[x]).length:=by simp
theorem MA(t:List Stp)(x:Stp):t.flatMap BC++esd x=(t++[x]).flatMap BC:=(H3 t x).symm
set_option maxHeartbeats 4000000 in
theorem T1(l:List Stp)(hl:l.length<=80)(hs:∀ s∈l,BS s=true)(hn:B7 (fun _=>true) SI none l=true):EF Try.prog [] 25 [.one (.row 30 l.length (l.flatMap BC))] (.part (.one (.row 30 (tdy [] [] l).length ((tdy [] [] l).flatMap BC)))):=by
 refine AF 53 Try.func25 rfl rfl rfl fun w D=>?_
 try refine A1 ?_
 refine A0 (AC rfl rfl rfl rfl rfl .nil) ?_
 try refine A1 ?_
 refine A0 (AC rfl rfl rfl rfl rfl (AC rfl rfl rfl rfl rfl .nil)) ?_
 try refine A1 ?_
 refine E9 3 1000 76 30 rfl rfl rfl ?_
 refine E9 4 1001 76 30 rfl rfl rfl ?_
 refine A0 (A8 rfl rfl rfl rfl rfl (A4 rfl rfl rfl (AY rfl (kn rfl) sle_29) (A8 rfl rfl rfl rfl rfl .nil))) ?_
 try refine A1 ?_
 refine BN (ι:={ q:Nat×List Stp×List Stp // q.1<=l.length/\tdw q.2.1 q.2.2 (l.drop q.1)=tdy [] [] l/\q.2.1.length+q.2.2.length<=q.1/\(∀ s∈q.2.2,s.1.1=3)/\(IW (q.2.1++q.2.2)=1 -> ∃ y,D4 l q.1=some y/\y.1.1=1) })
  (fun q=>[(3,.own 1000),(4,.own 1001),(7,.part (.one (.row 30 l.length (l.flatMap BC)))),(8,.is (.int .i64 (l.length:Int))),(9,.is (.int .i64 (q.1.1:Int)))])
  (fun _=>[]) (fun q=>[(1000,sR q.1.2.1),(1001,sR q.1.2.2)]) (fun q=>l.length-q.1.1) ⟨(0,[],[]),Nat.zero_le _,TK l,Nat.le_refl _,(fun _ h=>by cases h),(fun h=>by cases h)⟩
  (fun K=>AM ⟨s_t,s_t,s_t,s_t,s_t,trivial⟩ trivial ⟨rfl,rfl,trivial⟩) ?_
 rintro⟨⟨k,t,p⟩,hk,hw,hlen,hp3,hlast⟩
 dsimp only at hk hw hlen hp3 hlast ⊢
 try refine A1 ?_
 refine A0 (A4 rfl rfl rfl (A6 rfl (kn rfl) (kn rfl) BM) .nil) ?_
 try refine A1 ?_
 refine AB rfl (fun h=>?_) (fun h=>?_)
 ·have hlt:k<l.length:=by have:=of_decide_eq_true h;omega
  obtain⟨x,hx⟩:∃ x,l[k]?=some x:=⟨_,List.getElem?_eq_getElem hlt⟩
  have mx:=List.mem_of_getElem? hx
  have hsx:=hs x mx
  have hcx:=(DC hsx).2
  rw[BQ hx,tdw]at hw
  have stays:∀ q:List Stp,x.1.1≠1->IW (q++[x])=1 -> ∃ y,D4 l (k+1)=some y/\y.1.1=1:=fun q h1 h2=>absurd ((F7 q x).symm.trans h2) h1
  try refine A1 ?_
  refine AG ?_
  refine AK (AX rfl (kn rfl) (kn rfl) (by omega) hx CA sle_29 esz_29 (C0 x)) ?_
  refine AK (AO rfl (kn rfl) agg_76 sz_76) ?_
  refine BB 6 [.is (.int .i64 0),.is (.int .i64 0),.is (.int .i64 0),.is (.int .u64 0),.is (.string ⟨#[]⟩),.is (.slice none 0 0),.is (.string ⟨#[]⟩),.is (.slice none 0 0),.is (.slice none 0 0),.is (.int .i64 0),.is (.int .i64 0),.is (.int .u64 0),.is (.string ⟨#[]⟩),.is (.slice none 0 0),.is (.string ⟨#[]⟩),.is (.slice none 0 0),.is (.slice none 0 0),.is (.int .i64 0),.is (.int .u64 0),.is (.string ⟨#[]⟩),.is (.slice none 0 0),.is (.string ⟨#[]⟩),.is (.slice none 0 0),.is (.slice none 0 0),.is (.slice none 0 0),.is (.bool false),.is (.string ⟨#[]⟩),.is (.string ⟨#[]⟩),.is (.slice none 0 0),.is (.slice none 0 0)] rfl rfl rfl rfl zr_76 (fun w D M V=>⟨rfl,fun j x v h1 h2=>BA _ h1 h2 rfl⟩) rfl rfl rfl rfl ?_
  refine B2 rfl rfl rfl (kn rfl) rfl (kn rfl) rfl rfl sz_76 ?_
  refine AD ?_
  try refine A1 ?_
  refine AG ?_
  refine AK (A9 (ds:=[_,_,_,_,_,_,_,_,_,_,_,_,_,_,_,_,_,_,_,_,_,_,_,_,_,_,_,_,_,_]) 30 rfl (kn rfl) rfl rfl agg_76 sz_76 rfl) ?_
  refine AK (AH rfl (by kernel_rfl) (SO x hsx) ⟨(kn rfl),trivial⟩) ?_
  refine B2 rfl rfl rfl (kn rfl) rfl (kn rfl) rfl rfl sz_76 ?_
  refine AD ?_
  try refine A1 ?_
  refine A0 (A4 rfl rfl rfl (A3 rfl (kn rfl) off_76_0) (A4 rfl rfl rfl (A5 rfl (kn rfl) rfl rfl one_3) .nil)) ?_
  try refine A1 ?_
  try refine A1 ?_
  refine A0 (A4 rfl rfl rfl (A6 rfl (kn rfl) (kn rfl) AL) (AC rfl rfl rfl rfl rfl .nil)) ?_
  try refine A1 ?_
  refine AB rfl (fun c1=>?_) (fun c1=>?_)
  ·have k1:=of_decide_eq_true c1
   have hnl:IW (t++p)≠1:=fun h1=>by
    obtain⟨y,hy,hy1⟩:=hlast h1
    have:=QP hn hx hy
    unfold SI at this
    rw[hy1,k1]at this
    cases this
   have hke:=SV (t++p) x.1.2.1 (by simp;omega) hnl
   rw[SS hsx k1]at hke
   rw[if_neg (by omega),if_neg (by omega)]at hw
   try refine A1 ?_
   refine AM (T':=[(3,.own 1000),(4,.own 1001),(6,.box 6 0),(7,.part (.one (.row 30 l.length (l.flatMap BC)))),(8,.is (.int .i64 (l.length:Int))),(9,.is (.int .i64 (k:Int)))]) (B':=stB x) (R':=[(1000,sR t),(1001,sR p)]) ⟨s_t,s_t,s_t,s_t,s_t,s_t,trivial⟩ ⟨s_b,trivial⟩ ⟨rfl,rfl,trivial⟩ ?_
   refine G7 10 [[],[],[0,1],[],[3],[2,4,2],[],[6],[5,5,0,1,2,3,4,5],[7,8,0,1,2,3,4,5,6,7,8]] [[false,false,false,false,false,false,false,false,false,false],[true,false,false,false,false,false,false,false,false,false],[false,true,false,false,false,false,false,false,false,false],[false,false,false,true,false,false,false,false,false,false],[false,false,false,false,false,false,true,false,false,false],[true,true,false,false,false,false,false,false,false,false],[true,false,false,true,false,false,false,false,false,false],[true,false,false,false,false,false,true,false,false,false],[false,true,false,true,false,false,false,false,false,false],[false,true,false,false,false,false,true,false,false,false],[false,false,false,true,true,false,false,false,false,false],[false,false,false,true,false,false,true,false,false,false],[false,false,false,false,false,false,true,true,false,false],[true,true,true,false,false,false,false,false,false,false],[true,true,false,true,false,false,false,false,false,false],[true,true,false,false,false,false,true,false,false,false],[true,false,false,true,true,false,false,false,false,false],[true,false,false,true,false,false,true,false,false,false],[true,false,false,false,false,false,true,true,false,false],[false,true,false,true,true,false,false,false,false,false],[false,true,false,true,false,false,true,false,false,false],[false,true,false,false,false,false,true,true,false,false],[false,false,false,true,true,false,true,false,false,false],[false,false,false,true,false,false,true,true,false,false],[true,true,true,true,false,false,false,false,false,false],[true,true,true,false,false,false,true,false,false,false],[true,true,false,true,true,false,false,false,false,false],[true,true,false,true,false,false,true,false,false,false],[true,true,false,false,false,false,true,true,false,false],[true,false,false,true,true,false,true,false,false,false],[true,false,false,true,false,false,true,true,false,false],[false,true,false,true,true,false,true,false,false,false],[false,true,false,true,false,false,true,true,false,false],[false,false,false,true,true,false,true,true,false,false],[true,true,true,true,true,false,false,false,false,false],[true,true,true,true,false,false,true,false,false,false],[true,true,true,false,false,false,true,true,false,false],[true,true,false,true,true,false,true,false,false,false],[true,true,false,true,false,false,true,true,false,false],[true,false,false,true,true,false,true,true,false,false],[false,true,false,true,true,false,true,true,false,false],[true,true,true,true,true,true,false,false,false,false],[true,true,true,true,true,false,true,false,false,false],[true,true,true,true,false,false,true,true,false,false],[true,true,false,true,true,false,true,true,false,false],[true,true,true,true,true,true,true,false,false,false],[true,true,true,true,true,true,false,false,true,false],[true,true,true,true,true,false,true,true,false,false],[true,true,true,true,true,true,true,true,false,false],[true,true,true,true,true,true,true,false,true,false],[true,true,true,true,true,true,true,true,true,false],[true,true,true,true,true,true,true,true,true,true]] [([false,false,false,false,false,false,false,false,false,false],0),([false,false,false,false,false,false,false,false,false,false],1),([false,false,false,false,false,false,false,false,false,false],3),([false,false,false,false,false,false,false,false,false,false],6),([true,false,false,false,false,false,false,false,false,false],1),([true,false,false,false,false,false,false,false,false,false],3),([true,false,false,false,false,false,false,false,false,false],6),([false,true,false,false,false,false,false,false,false,false],0),([false,true,false,false,false,false,false,false,false,false],3),([false,true,false,false,false,false,false,false,false,false],6),([false,false,false,true,false,false,false,false,false,false],0),([false,false,false,true,false,false,false,false,false,false],1),([false,false,false,true,false,false,false,false,false,false],4),([false,false,false,true,false,false,false,false,false,false],6),([false,false,false,false,false,false,true,false,false,false],0),([false,false,false,false,false,false,true,false,false,false],1),([false,false,false,false,false,false,true,false,false,false],3),([false,false,false,false,false,false,true,false,false,false],7),([true,true,false,false,false,false,false,false,false,false],2),([true,true,false,false,false,false,false,false,false,false],3),([true,true,false,false,false,false,false,false,false,false],6),([true,false,false,true,false,false,false,false,false,false],1),([true,false,false,true,false,false,false,false,false,false],4),([true,false,false,true,false,false,false,false,false,false],6),([true,false,false,false,false,false,true,false,false,false],1),([true,false,false,false,false,false,true,false,false,false],3),([true,false,false,false,false,false,true,false,false,false],7),([false,true,false,true,false,false,false,false,false,false],0),([false,true,false,true,false,false,false,false,false,false],4),([false,true,false,true,false,false,false,false,false,false],6),([false,true,false,false,false,false,true,false,false,false],0),([false,true,false,false,false,false,true,false,false,false],3),([false,true,false,false,false,false,true,false,false,false],7),([false,false,false,true,true,false,false,false,false,false],0),([false,false,false,true,true,false,false,false,false,false],1),([false,false,false,true,true,false,false,false,false,false],6),([false,false,false,true,false,false,true,false,false,false],0),([false,false,false,true,false,false,true,false,false,false],1),([false,false,false,true,false,false,true,false,false,false],4),([false,false,false,true,false,false,true,false,false,false],7),([false,false,false,false,false,false,true,true,false,false],0),([false,false,false,false,false,false,true,true,false,false],1),([false,false,false,false,false,false,true,true,false,false],3),([true,true,true,false,false,false,false,false,false,false],3),([true,true,true,false,false,false,false,false,false,false],6),([true,true,false,true,false,false,false,false,false,false],2),([true,true,false,true,false,false,false,false,false,false],4),([true,true,false,true,false,false,false,false,false,false],6),([true,true,false,false,false,false,true,false,false,false],2),([true,true,false,false,false,false,true,false,false,false],3),([true,true,false,false,false,false,true,false,false,false],7),([true,false,false,true,true,false,false,false,false,false],1),([true,false,false,true,true,false,false,false,false,false],6),([true,false,false,true,false,false,true,false,false,false],1),([true,false,false,true,false,false,true,false,false,false],4),([true,false,false,true,false,false,true,false,false,false],7),([true,false,false,false,false,false,true,true,false,false],1),([true,false,false,false,false,false,true,true,false,false],3),([false,true,false,true,true,false,false,false,false,false],0),([false,true,false,true,true,false,false,false,false,false],6),([false,true,false,true,false,false,true,false,false,false],0),([false,true,false,true,false,false,true,false,false,false],4),([false,true,false,true,false,false,true,false,false,false],7),([false,true,false,false,false,false,true,true,false,false],0),([false,true,false,false,false,false,true,true,false,false],3),([false,false,false,true,true,false,true,false,false,false],0),([false,false,false,true,true,false,true,false,false,false],1),([false,false,false,true,true,false,true,false,false,false],7),([false,false,false,true,false,false,true,true,false,false],0),([false,false,false,true,false,false,true,true,false,false],1),([false,false,false,true,false,false,true,true,false,false],4),([true,true,true,true,false,false,false,false,false,false],4),([true,true,true,true,false,false,false,false,false,false],6),([true,true,true,false,false,false,true,false,false,false],3),([true,true,true,false,false,false,true,false,false,false],7),([true,true,false,true,true,false,false,false,false,false],2),([true,true,false,true,true,false,false,false,false,false],6),([true,true,false,true,false,false,true,false,false,false],2),([true,true,false,true,false,false,true,false,false,false],4),([true,true,false,true,false,false,true,false,false,false],7),([true,true,false,false,false,false,true,true,false,false],2),([true,true,false,false,false,false,true,true,false,false],3),([true,false,false,true,true,false,true,false,false,false],1),([true,false,false,true,true,false,true,false,false,false],7),([true,false,false,true,false,false,true,true,false,false],1),([true,false,false,true,false,false,true,true,false,false],4),([false,true,false,true,true,false,true,false,false,false],0),([false,true,false,true,true,false,true,false,false,false],7),([false,true,false,true,false,false,true,true,false,false],0),([false,true,false,true,false,false,true,true,false,false],4),([false,false,false,true,true,false,true,true,false,false],0),([false,false,false,true,true,false,true,true,false,false],1),([true,true,true,true,true,false,false,false,false,false],5),([true,true,true,true,true,false,false,false,false,false],6),([true,true,true,true,false,false,true,false,false,false],4),([true,true,true,true,false,false,true,false,false,false],7),([true,true,true,false,false,false,true,true,false,false],3),([true,true,false,true,true,false,true,false,false,false],2),([true,true,false,true,true,false,true,false,false,false],7),([true,true,false,true,false,false,true,true,false,false],2),([true,true,false,true,false,false,true,true,false,false],4),([true,false,false,true,true,false,true,true,false,false],1),([false,true,false,true,true,false,true,true,false,false],0),([true,true,true,true,true,true,false,false,false,false],6),([true,true,true,true,true,true,false,false,false,false],8),([true,true,true,true,true,false,true,false,false,false],5),([true,true,true,true,true,false,true,false,false,false],7),([true,true,true,true,false,false,true,true,false,false],4),([true,true,false,true,true,false,true,true,false,false],2),([true,true,true,true,true,true,true,false,false,false],7),([true,true,true,true,true,true,true,false,false,false],8),([true,true,true,true,true,true,false,false,true,false],6),([true,true,true,true,true,false,true,true,false,false],5),([true,true,true,true,true,true,true,true,false,false],8),([true,true,true,true,true,true,true,false,true,false],7),([true,true,true,true,true,true,true,true,true,false],9)] [(9,4,.via 1001 (PQ 0)),(8,3,.own 1000),(2,3,.junk),(5,24,.own 1000),(5,21,.junk),(2,21,.own 1000),(2,19,.junk),(0,19,.own 1000),(1,20,.own 1001),(3,22,.box 6 1),(4,23,.is (.int .i64 x.1.2.1)),(6,25,.own 1001),(7,26,.via 1001 (PQ 0))] [] [(5,1000,sR (t++p++[x])),(2,1000,sR (t++p))] [(3,.own 1000),(4,.own 1001),(6,.box 6 0),(7,.part (.one (.row 30 l.length (l.flatMap BC)))),(8,.is (.int .i64 (l.length:Int))),(9,.is (.int .i64 (k:Int)))] [(6,⟨76,bcs (esd x)⟩)] [(1000,sR t),(1001,sR p)] (by kernel_rfl) rfl DX (by kernel_rfl) (by decide) (fun K h=>h) ?_ ?_
   ·repeat' first
     | exact trivial
     | refine And.intro ?_ ?_
    all_goals
     intro K hK
     replace hK:=PX (PZ (T7 hK))
     first
      | (refine B3 (i:=0) rfl (fun h=>h) ?_;refine BE ?_;refine AD ?_;refine A1 ?_;exact AP hK (by repeat' first | exact trivial | refine And.intro s_t ?_) (by repeat' first | exact trivial | refine And.intro s_b ?_) (by repeat' first | exact trivial | refine And.intro rfl ?_))
      | (refine B3 (i:=1) rfl (fun h=>h) ?_;refine BE ?_;refine AD ?_;refine A1 ?_;exact AP hK (by repeat' first | exact trivial | refine And.intro s_t ?_) (by repeat' first | exact trivial | refine And.intro s_b ?_) (by repeat' first | exact trivial | refine And.intro rfl ?_))
      | (refine B3 (i:=2) rfl (fun h=>h) ?_;refine I3 rfl rfl rfl rfl (kn rfl) rfl (kn rfl) rfl sl_29 ap_29 rfl (I7 p) (by first | omega | (dsimp only;omega)) (by first | omega | (dsimp only;omega)) ?_;refine D5 (P7 t p) (MJ t p) ?_;refine AD ?_;refine A1 ?_;exact AP hK (by repeat' first | exact trivial | refine And.intro s_t ?_) (by repeat' first | exact trivial | refine And.intro s_b ?_) (by repeat' first | exact trivial | refine And.intro rfl ?_))
      | (refine B3 (i:=3) rfl (fun h=>h) ?_;refine AK (A3 rfl (kn rfl) off_76_1) ?_;refine AD ?_;refine A1 ?_;exact AP hK (by repeat' first | exact trivial | refine And.intro s_t ?_) (by repeat' first | exact trivial | refine And.intro s_b ?_) (by repeat' first | exact trivial | refine And.intro rfl ?_))
      | (refine B3 (i:=4) rfl (fun h=>h) ?_;refine AK (A5 rfl (kn rfl) rfl rfl one_3) ?_;refine AD ?_;refine A1 ?_;exact AP hK (by repeat' first | exact trivial | refine And.intro s_t ?_) (by repeat' first | exact trivial | refine And.intro s_b ?_) (by repeat' first | exact trivial | refine And.intro rfl ?_))
      | (refine B3 (i:=5) rfl (fun h=>h) ?_;refine HT rfl rfl rfl rfl (by kernel_rfl) (hke) trivial ⟨rfl,trivial⟩ ⟨(kn rfl),⟨(kn rfl),trivial⟩⟩ (YK.tidy) ?_;rintro _ _ _ ⟨rfl,rfl,rfl⟩;refine AD ?_;refine A1 ?_;exact AP hK (by repeat' first | exact trivial | refine And.intro s_t ?_) (by repeat' first | exact trivial | refine And.intro s_b ?_) (by repeat' first | exact trivial | refine And.intro rfl ?_))
      | (refine B3 (i:=6) rfl (fun h=>h) ?_;refine BE ?_;refine AD ?_;refine A1 ?_;exact AP hK (by repeat' first | exact trivial | refine And.intro s_t ?_) (by repeat' first | exact trivial | refine And.intro s_b ?_) (by repeat' first | exact trivial | refine And.intro rfl ?_))
      | (refine B3 (i:=7) rfl (fun h=>h) ?_;refine AK (LH rfl (kn rfl) rfl (kn rfl) ⟨Int.le_refl _,Int.natCast_nonneg _⟩ sle_29 esz_29) ?_;refine AD ?_;refine A1 ?_;exact AP hK (by repeat' first | exact trivial | refine And.intro s_t ?_) (by repeat' first | exact trivial | refine And.intro s_b ?_) (by repeat' first | exact trivial | refine And.intro rfl ?_))
      | (refine B3 (i:=8) rfl (fun h=>h) ?_;refine BW ?_;refine AD ?_;refine A1 ?_;exact AP hK (by repeat' first | exact trivial | refine And.intro s_t ?_) (by repeat' first | exact trivial | refine And.intro s_b ?_) (by repeat' first | exact trivial | refine And.intro rfl ?_))
      | (refine B3 (i:=9) rfl (fun h=>h) ?_;refine BW ?_;refine AD ?_;refine A1 ?_;exact AP hK (by repeat' first | exact trivial | refine And.intro s_t ?_) (by repeat' first | exact trivial | refine And.intro s_b ?_) (by repeat' first | exact trivial | refine And.intro rfl ?_))
   try refine A1 ?_
   refine O8 (t:=4) (r:=1001) rfl rfl ?_
   refine A0 (A4 rfl rfl rfl (A6 rfl (kn rfl) (kn rfl) (AW (by first | omega | (dsimp only;omega)))) (A8 rfl rfl rfl rfl rfl .nil)) ?_
   try refine A1 ?_
   refine AV ⟨(k+1,t++p++[x],[]),by dsimp only;omega,by dsimp only;rw[<- hw,hw],by simp only[List.length_append,List.length_cons,List.length_nil];omega,(fun _ h=>(by cases h)),(fun _=>⟨x,KC hx,k1⟩)⟩ (by dsimp only;omega) (fun K=>AM ⟨s_t,s_t,s_t,s_t,s_t,trivial⟩ trivial ⟨rfl,rfl,trivial⟩)
  have n1:=of_decide_eq_false c1
  try refine A1 ?_
  refine A0 (A4 rfl rfl rfl (A6 rfl (kn rfl) (kn rfl) AL) (AC rfl rfl rfl rfl rfl .nil)) ?_
  try refine A1 ?_
  refine AB rfl (fun c2=>?_) (fun c2=>?_)
  ·have k2:=of_decide_eq_true c2
   rw[if_pos k2]at hw
   try refine A1 ?_
   refine AG ?_
   refine BE ?_
   refine AK (A9 (ds:=[_,_,_,_,_,_,_,_,_,_,_,_,_,_,_,_,_,_,_,_,_,_,_,_,_,_,_,_,_,_]) 30 rfl (kn rfl) rfl rfl agg_76 sz_76 rfl) ?_
   refine AK (C6 (ds:=[_,_,_,_,_,_,_,_,_,_,_,_,_,_,_,_,_,_,_,_,_,_,_,_,_,_,_,_,_,_]) [(0,_)] rfl ⟨rfl,(kn rfl),trivial⟩ rfl sl_29 sz_76 zr_76 (fun w D=>.cons (.cell _) (.cons (.cell _) (.cons (.cell _) (.cons (.cell _) (.cons (.cell _) (.cons (.cell _) (.cons (.cell _) (.cons (.cell _) (.cons (.cell _) (.cons (.cell _) (.cons (.cell _) (.cons (.cell _) (.cons (.cell _) (.cons (.cell _) (.cons (.cell _) (.cons (.cell _) (.cons (.cell _) (.cons (.cell _) (.cons (.cell _) (.cons (.cell _) (.cons (.cell _) (.cons (.cell _) (.cons (.cell _) (.cons (.cell _) (.cons (.cell _) (.cons (.cell _) (.cons (.cell _) (.cons (.cell _) (.cons (.cell _) (.cons (.cell _) (.nil _ _))))))))))))))))))))))))))))))) rfl rfl rfl rfl rfl) ?_
   refine DN rfl rfl rfl rfl (kn rfl) rfl (kn rfl) sl_29 ap_29 rfl rfl (by first | omega | (dsimp only;omega)) (by first | omega | (dsimp only;omega)) ?_
   refine BW ?_
   refine AD ?_
   try refine A1 ?_
   refine D5 (PJ t x) (MA t x) ?_
   refine A0 (A4 rfl rfl rfl (A6 rfl (kn rfl) (kn rfl) (AW (by first | omega | (dsimp only;omega)))) (A8 rfl rfl rfl rfl rfl .nil)) ?_
   try refine A1 ?_
   refine AV ⟨(k+1,t++[x],p),by dsimp only;omega,by dsimp only;rw[<- hw,hw],by simp only[List.length_append,List.length_cons,List.length_nil];omega,hp3,(fun h2=>RB (by omega) hp3 h2)⟩ (by dsimp only;omega) (fun K=>AM ⟨s_t,s_t,s_t,s_t,s_t,trivial⟩ trivial ⟨rfl,rfl,trivial⟩)
  have n2:=of_decide_eq_false c2
  rw[if_neg n2]at hw
  try refine A1 ?_
  refine A0 (A4 rfl rfl rfl (A6 rfl (kn rfl) (kn rfl) AL) (AC rfl rfl rfl rfl rfl .nil)) ?_
  try refine A1 ?_
  refine AB rfl (fun c3=>?_) (fun c3=>?_)
  ·have k3:=of_decide_eq_true c3
   rw[if_pos k3]at hw
   try refine A1 ?_
   refine AG ?_
   refine BE ?_
   refine AK (A9 (ds:=[_,_,_,_,_,_,_,_,_,_,_,_,_,_,_,_,_,_,_,_,_,_,_,_,_,_,_,_,_,_]) 30 rfl (kn rfl) rfl rfl agg_76 sz_76 rfl) ?_
   refine AK (C6 (ds:=[_,_,_,_,_,_,_,_,_,_,_,_,_,_,_,_,_,_,_,_,_,_,_,_,_,_,_,_,_,_]) [(0,_)] rfl ⟨rfl,(kn rfl),trivial⟩ rfl sl_29 sz_76 zr_76 (fun w D=>.cons (.cell _) (.cons (.cell _) (.cons (.cell _) (.cons (.cell _) (.cons (.cell _) (.cons (.cell _) (.cons (.cell _) (.cons (.cell _) (.cons (.cell _) (.cons (.cell _) (.cons (.cell _) (.cons (.cell _) (.cons (.cell _) (.cons (.cell _) (.cons (.cell _) (.cons (.cell _) (.cons (.cell _) (.cons (.cell _) (.cons (.cell _) (.cons (.cell _) (.cons (.cell _) (.cons (.cell _) (.cons (.cell _) (.cons (.cell _) (.cons (.cell _) (.cons (.cell _) (.cons (.cell _) (.cons (.cell _) (.cons (.cell _) (.cons (.cell _) (.nil _ _))))))))))))))))))))))))))))))) rfl rfl rfl rfl rfl) ?_
   refine DN rfl rfl rfl rfl (kn rfl) rfl (kn rfl) sl_29 ap_29 rfl rfl (by first | omega | (dsimp only;omega)) (by first | omega | (dsimp only;omega)) ?_
   refine BW ?_
   refine AD ?_
   try refine A1 ?_
   refine D5 (PJ p x) (MA p x) ?_
   refine A0 (A4 rfl rfl rfl (A6 rfl (kn rfl) (kn rfl) (AW (by first | omega | (dsimp only;omega)))) (A8 rfl rfl rfl rfl rfl .nil)) ?_
   try refine A1 ?_
   refine AV ⟨(k+1,t,p++[x]),by dsimp only;omega,by dsimp only;rw[<- hw,hw],by simp only[List.length_append,List.length_cons,List.length_nil];omega,(S3 hp3 k3),(fun h2=>stays (t++p) n1 (by rw[List.append_assoc];exact h2))⟩ (by dsimp only;omega) (fun K=>AM ⟨s_t,s_t,s_t,s_t,s_t,trivial⟩ trivial ⟨rfl,rfl,trivial⟩)
  have n3:=of_decide_eq_false c3
  rw[if_neg n3]at hw
  have k4:x.1.1=4:=by omega
  try refine A1 ?_
  refine A0 (A4 rfl rfl rfl (A6 rfl (kn rfl) (kn rfl) AL) (AC rfl rfl rfl rfl rfl .nil)) ?_
  try refine A1 ?_
  refine AB rfl (fun c4=>?_) (fun c4=>absurd k4 (of_decide_eq_false c4))
  try refine A1 ?_
  refine AM (T':=[(3,.own 1000),(4,.own 1001),(6,.box 6 0),(7,.part (.one (.row 30 l.length (l.flatMap BC)))),(8,.is (.int .i64 (l.length:Int))),(9,.is (.int .i64 (k:Int)))]) (B':=stB x) (R':=[(1000,sR t),(1001,sR p)]) ⟨s_t,s_t,s_t,s_t,s_t,s_t,trivial⟩ ⟨s_b,trivial⟩ ⟨rfl,rfl,trivial⟩ ?_
  refine G7 10 [[],[],[0,1],[],[3],[2,4,2],[],[6],[5,5,0,1,2,3,4,5],[7,8,0,1,2,3,4,5,6,7,8]] [[false,false,false,false,false,false,false,false,false,false],[true,false,false,false,false,false,false,false,false,false],[false,true,false,false,false,false,false,false,false,false],[false,false,false,true,false,false,false,false,false,false],[false,false,false,false,false,false,true,false,false,false],[true,true,false,false,false,false,false,false,false,false],[true,false,false,true,false,false,false,false,false,false],[true,false,false,false,false,false,true,false,false,false],[false,true,false,true,false,false,false,false,false,false],[false,true,false,false,false,false,true,false,false,false],[false,false,false,true,true,false,false,false,false,false],[false,false,false,true,false,false,true,false,false,false],[false,false,false,false,false,false,true,true,false,false],[true,true,true,false,false,false,false,false,false,false],[true,true,false,true,false,false,false,false,false,false],[true,true,false,false,false,false,true,false,false,false],[true,false,false,true,true,false,false,false,false,false],[true,false,false,true,false,false,true,false,false,false],[true,false,false,false,false,false,true,true,false,false],[false,true,false,true,true,false,false,false,false,false],[false,true,false,true,false,false,true,false,false,false],[false,true,false,false,false,false,true,true,false,false],[false,false,false,true,true,false,true,false,false,false],[false,false,false,true,false,false,true,true,false,false],[true,true,true,true,false,false,false,false,false,false],[true,true,true,false,false,false,true,false,false,false],[true,true,false,true,true,false,false,false,false,false],[true,true,false,true,false,false,true,false,false,false],[true,true,false,false,false,false,true,true,false,false],[true,false,false,true,true,false,true,false,false,false],[true,false,false,true,false,false,true,true,false,false],[false,true,false,true,true,false,true,false,false,false],[false,true,false,true,false,false,true,true,false,false],[false,false,false,true,true,false,true,true,false,false],[true,true,true,true,true,false,false,false,false,false],[true,true,true,true,false,false,true,false,false,false],[true,true,true,false,false,false,true,true,false,false],[true,true,false,true,true,false,true,false,false,false],[true,true,false,true,false,false,true,true,false,false],[true,false,false,true,true,false,true,true,false,false],[false,true,false,true,true,false,true,true,false,false],[true,true,true,true,true,true,false,false,false,false],[true,true,true,true,true,false,true,false,false,false],[true,true,true,true,false,false,true,true,false,false],[true,true,false,true,true,false,true,true,false,false],[true,true,true,true,true,true,true,false,false,false],[true,true,true,true,true,true,false,false,true,false],[true,true,true,true,true,false,true,true,false,false],[true,true,true,true,true,true,true,true,false,false],[true,true,true,true,true,true,true,false,true,false],[true,true,true,true,true,true,true,true,true,false],[true,true,true,true,true,true,true,true,true,true]] [([false,false,false,false,false,false,false,false,false,false],0),([false,false,false,false,false,false,false,false,false,false],1),([false,false,false,false,false,false,false,false,false,false],3),([false,false,false,false,false,false,false,false,false,false],6),([true,false,false,false,false,false,false,false,false,false],1),([true,false,false,false,false,false,false,false,false,false],3),([true,false,false,false,false,false,false,false,false,false],6),([false,true,false,false,false,false,false,false,false,false],0),([false,true,false,false,false,false,false,false,false,false],3),([false,true,false,false,false,false,false,false,false,false],6),([false,false,false,true,false,false,false,false,false,false],0),([false,false,false,true,false,false,false,false,false,false],1),([false,false,false,true,false,false,false,false,false,false],4),([false,false,false,true,false,false,false,false,false,false],6),([false,false,false,false,false,false,true,false,false,false],0),([false,false,false,false,false,false,true,false,false,false],1),([false,false,false,false,false,false,true,false,false,false],3),([false,false,false,false,false,false,true,false,false,false],7),([true,true,false,false,false,false,false,false,false,false],2),([true,true,false,false,false,false,false,false,false,false],3),([true,true,false,false,false,false,false,false,false,false],6),([true,false,false,true,false,false,false,false,false,false],1),([true,false,false,true,false,false,false,false,false,false],4),([true,false,false,true,false,false,false,false,false,false],6),([true,false,false,false,false,false,true,false,false,false],1),([true,false,false,false,false,false,true,false,false,false],3),([true,false,false,false,false,false,true,false,false,false],7),([false,true,false,true,false,false,false,false,false,false],0),([false,true,false,true,false,false,false,false,false,false],4),([false,true,false,true,false,false,false,false,false,false],6),([false,true,false,false,false,false,true,false,false,false],0),([false,true,false,false,false,false,true,false,false,false],3),([false,true,false,false,false,false,true,false,false,false],7),([false,false,false,true,true,false,false,false,false,false],0),([false,false,false,true,true,false,false,false,false,false],1),([false,false,false,true,true,false,false,false,false,false],6),([false,false,false,true,false,false,true,false,false,false],0),([false,false,false,true,false,false,true,false,false,false],1),([false,false,false,true,false,false,true,false,false,false],4),([false,false,false,true,false,false,true,false,false,false],7),([false,false,false,false,false,false,true,true,false,false],0),([false,false,false,false,false,false,true,true,false,false],1),([false,false,false,false,false,false,true,true,false,false],3),([true,true,true,false,false,false,false,false,false,false],3),([true,true,true,false,false,false,false,false,false,false],6),([true,true,false,true,false,false,false,false,false,false],2),([true,true,false,true,false,false,false,false,false,false],4),([true,true,false,true,false,false,false,false,false,false],6),([true,true,false,false,false,false,true,false,false,false],2),([true,true,false,false,false,false,true,false,false,false],3),([true,true,false,false,false,false,true,false,false,false],7),([true,false,false,true,true,false,false,false,false,false],1),([true,false,false,true,true,false,false,false,false,false],6),([true,false,false,true,false,false,true,false,false,false],1),([true,false,false,true,false,false,true,false,false,false],4),([true,false,false,true,false,false,true,false,false,false],7),([true,false,false,false,false,false,true,true,false,false],1),([true,false,false,false,false,false,true,true,false,false],3),([false,true,false,true,true,false,false,false,false,false],0),([false,true,false,true,true,false,false,false,false,false],6),([false,true,false,true,false,false,true,false,false,false],0),([false,true,false,true,false,false,true,false,false,false],4),([false,true,false,true,false,false,true,false,false,false],7),([false,true,false,false,false,false,true,true,false,false],0),([false,true,false,false,false,false,true,true,false,false],3),([false,false,false,true,true,false,true,false,false,false],0),([false,false,false,true,true,false,true,false,false,false],1),([false,false,false,true,true,false,true,false,false,false],7),([false,false,false,true,false,false,true,true,false,false],0),([false,false,false,true,false,false,true,true,false,false],1),([false,false,false,true,false,false,true,true,false,false],4),([true,true,true,true,false,false,false,false,false,false],4),([true,true,true,true,false,false,false,false,false,false],6),([true,true,true,false,false,false,true,false,false,false],3),([true,true,true,false,false,false,true,false,false,false],7),([true,true,false,true,true,false,false,false,false,false],2),([true,true,false,true,true,false,false,false,false,false],6),([true,true,false,true,false,false,true,false,false,false],2),([true,true,false,true,false,false,true,false,false,false],4),([true,true,false,true,false,false,true,false,false,false],7),([true,true,false,false,false,false,true,true,false,false],2),([true,true,false,false,false,false,true,true,false,false],3),([true,false,false,true,true,false,true,false,false,false],1),([true,false,false,true,true,false,true,false,false,false],7),([true,false,false,true,false,false,true,true,false,false],1),([true,false,false,true,false,false,true,true,false,false],4),([false,true,false,true,true,false,true,false,false,false],0),([false,true,false,true,true,false,true,false,false,false],7),([false,true,false,true,false,false,true,true,false,false],0),([false,true,false,true,false,false,true,true,false,false],4),([false,false,false,true,true,false,true,true,false,false],0),([false,false,false,true,true,false,true,true,false,false],1),([true,true,true,true,true,false,false,false,false,false],5),([true,true,true,true,true,false,false,false,false,false],6),([true,true,true,true,false,false,true,false,false,false],4),([true,true,true,true,false,false,true,false,false,false],7),([true,true,true,false,false,false,true,true,false,false],3),([true,true,false,true,true,false,true,false,false,false],2),([true,true,false,true,true,false,true,false,false,false],7),([true,true,false,true,false,false,true,true,false,false],2),([true,true,false,true,false,false,true,true,false,false],4),([true,false,false,true,true,false,true,true,false,false],1),([false,true,false,true,true,false,true,true,false,false],0),([true,true,true,true,true,true,false,false,false,false],6),([true,true,true,true,true,true,false,false,false,false],8),([true,true,true,true,true,false,true,false,false,false],5),([true,true,true,true,true,false,true,false,false,false],7),([true,true,true,true,false,false,true,true,false,false],4),([true,true,false,true,true,false,true,true,false,false],2),([true,true,true,true,true,true,true,false,false,false],7),([true,true,true,true,true,true,true,false,false,false],8),([true,true,true,true,true,true,false,false,true,false],6),([true,true,true,true,true,false,true,true,false,false],5),([true,true,true,true,true,true,true,true,false,false],8),([true,true,true,true,true,true,true,false,true,false],7),([true,true,true,true,true,true,true,true,true,false],9)] [(9,4,.via 1001 (PQ 0)),(8,3,.own 1000),(2,3,.junk),(5,46,.own 1000),(5,43,.junk),(2,43,.own 1000),(2,41,.junk),(0,41,.own 1000),(1,42,.own 1001),(3,44,.part (.many (esd x))),(4,45,.part (.one (.row 30 1 (esd x)))),(6,47,.own 1001),(7,48,.via 1001 (PQ 0))] [] [(5,1000,sR (t++p++[x])),(2,1000,sR (t++p))] [(3,.own 1000),(4,.own 1001),(6,.box 6 0),(7,.part (.one (.row 30 l.length (l.flatMap BC)))),(8,.is (.int .i64 (l.length:Int))),(9,.is (.int .i64 (k:Int)))] [(6,⟨76,bcs (esd x)⟩)] [(1000,sR t),(1001,sR p)] (by kernel_rfl) rfl DX (by kernel_rfl) (by decide) (fun K h=>h) ?_ ?_
  ·repeat' first
    | exact trivial
    | refine And.intro ?_ ?_
   all_goals
    intro K hK
    replace hK:=PX (PZ (T7 hK))
    first
     | (refine B3 (i:=0) rfl (fun h=>h) ?_;refine BE ?_;refine AD ?_;refine A1 ?_;exact AP hK (by repeat' first | exact trivial | refine And.intro s_t ?_) (by repeat' first | exact trivial | refine And.intro s_b ?_) (by repeat' first | exact trivial | refine And.intro rfl ?_))
     | (refine B3 (i:=1) rfl (fun h=>h) ?_;refine BE ?_;refine AD ?_;refine A1 ?_;exact AP hK (by repeat' first | exact trivial | refine And.intro s_t ?_) (by repeat' first | exact trivial | refine And.intro s_b ?_) (by repeat' first | exact trivial | refine And.intro rfl ?_))
     | (refine B3 (i:=2) rfl (fun h=>h) ?_;refine I3 rfl rfl rfl rfl (kn rfl) rfl (kn rfl) rfl sl_29 ap_29 rfl (I7 p) (by first | omega | (dsimp only;omega)) (by first | omega | (dsimp only;omega)) ?_;refine D5 (P7 t p) (MJ t p) ?_;refine AD ?_;refine A1 ?_;exact AP hK (by repeat' first | exact trivial | refine And.intro s_t ?_) (by repeat' first | exact trivial | refine And.intro s_b ?_) (by repeat' first | exact trivial | refine And.intro rfl ?_))
     | (refine B3 (i:=3) rfl (fun h=>h) ?_;refine AK (A9 (ds:=[_,_,_,_,_,_,_,_,_,_,_,_,_,_,_,_,_,_,_,_,_,_,_,_,_,_,_,_,_,_]) 30 rfl (kn rfl) rfl rfl agg_76 sz_76 rfl) ?_;refine AD ?_;refine A1 ?_;exact AP hK (by repeat' first | exact trivial | refine And.intro s_t ?_) (by repeat' first | exact trivial | refine And.intro s_b ?_) (by repeat' first | exact trivial | refine And.intro rfl ?_))
     | (refine B3 (i:=4) rfl (fun h=>h) ?_;refine AK (C6 (ds:=[_,_,_,_,_,_,_,_,_,_,_,_,_,_,_,_,_,_,_,_,_,_,_,_,_,_,_,_,_,_]) [(0,_)] rfl ⟨rfl,(kn rfl),trivial⟩ rfl sl_29 sz_76 zr_76 (fun w D=>.cons (.cell _) (.cons (.cell _) (.cons (.cell _) (.cons (.cell _) (.cons (.cell _) (.cons (.cell _) (.cons (.cell _) (.cons (.cell _) (.cons (.cell _) (.cons (.cell _) (.cons (.cell _) (.cons (.cell _) (.cons (.cell _) (.cons (.cell _) (.cons (.cell _) (.cons (.cell _) (.cons (.cell _) (.cons (.cell _) (.cons (.cell _) (.cons (.cell _) (.cons (.cell _) (.cons (.cell _) (.cons (.cell _) (.cons (.cell _) (.cons (.cell _) (.cons (.cell _) (.cons (.cell _) (.cons (.cell _) (.cons (.cell _) (.cons (.cell _) (.nil _ _))))))))))))))))))))))))))))))) rfl rfl rfl rfl rfl) ?_;refine AD ?_;refine A1 ?_;exact AP hK (by repeat' first | exact trivial | refine And.intro s_t ?_) (by repeat' first | exact trivial | refine And.intro s_b ?_) (by repeat' first | exact trivial | refine And.intro rfl ?_))
     | (refine B3 (i:=5) rfl (fun h=>h) ?_;refine DN rfl rfl rfl rfl (kn rfl) rfl (kn rfl) sl_29 ap_29 rfl rfl (by simp only[List.length_append];omega) (by simp only[List.length_append];omega) ?_;refine D5 (PJ (t++p) x) (MA (t++p) x) ?_;refine AD ?_;refine A1 ?_;exact AP hK (by repeat' first | exact trivial | refine And.intro s_t ?_) (by repeat' first | exact trivial | refine And.intro s_b ?_) (by repeat' first | exact trivial | refine And.intro rfl ?_))
     | (refine B3 (i:=6) rfl (fun h=>h) ?_;refine BE ?_;refine AD ?_;refine A1 ?_;exact AP hK (by repeat' first | exact trivial | refine And.intro s_t ?_) (by repeat' first | exact trivial | refine And.intro s_b ?_) (by repeat' first | exact trivial | refine And.intro rfl ?_))
     | (refine B3 (i:=7) rfl (fun h=>h) ?_;refine AK (LH rfl (kn rfl) rfl (kn rfl) ⟨Int.le_refl _,Int.natCast_nonneg _⟩ sle_29 esz_29) ?_;refine AD ?_;refine A1 ?_;exact AP hK (by repeat' first | exact trivial | refine And.intro s_t ?_) (by repeat' first | exact trivial | refine And.intro s_b ?_) (by repeat' first | exact trivial | refine And.intro rfl ?_))
     | (refine B3 (i:=8) rfl (fun h=>h) ?_;refine BW ?_;refine AD ?_;refine A1 ?_;exact AP hK (by repeat' first | exact trivial | refine And.intro s_t ?_) (by repeat' first | exact trivial | refine And.intro s_b ?_) (by repeat' first | exact trivial | refine And.intro rfl ?_))
     | (refine B3 (i:=9) rfl (fun h=>h) ?_;refine BW ?_;refine AD ?_;refine A1 ?_;exact AP hK (by repeat' first | exact trivial | refine And.intro s_t ?_) (by repeat' first | exact trivial | refine And.intro s_b ?_) (by repeat' first | exact trivial | refine And.intro rfl ?_))
  try refine A1 ?_
  refine O8 (t:=4) (r:=1001) rfl rfl ?_
  refine A0 (A4 rfl rfl rfl (A6 rfl (kn rfl) (kn rfl) (AW (by first | omega | (dsimp only;omega)))) (A8 rfl rfl rfl rfl rfl .nil)) ?_
  try refine A1 ?_
  refine AV ⟨(k+1,t++p++[x],[]),by dsimp only;omega,by dsimp only;rw[<- hw,hw],by simp only[List.length_append,List.length_cons,List.length_nil];omega,(fun _ h=>(by cases h)),(fun h2=>stays (t++p) n1 (by rw[List.append_nil]at h2;exact h2))⟩ (by dsimp only;omega) (fun K=>AM ⟨s_t,s_t,s_t,s_t,s_t,trivial⟩ trivial ⟨rfl,rfl,trivial⟩)
 have hkl:l.length<=k:=by have:=of_decide_eq_false h;omega
 rw[List.drop_eq_nil_of_le hkl,tdw]at hw
 rw[<- hw]
 try refine A1 ?_
 refine AG ?_
 refine BE ?_
 refine BE ?_
 refine I3 rfl rfl rfl rfl (kn rfl) rfl (kn rfl) rfl sl_29 ap_29 rfl (I7 p) (by first | omega | (dsimp only;omega)) (by first | omega | (dsimp only;omega)) ?_
 refine D5 (P7 t p) (MJ t p) ?_
 refine BW ?_
 refine AD ?_
 try refine A1 ?_
 refine CU 2 1000 rfl rfl rfl ?_
 exact A7 rfl rfl (.tmp (kn rfl) (.nil)) (Imp.of_eq rfl) rfl
end Go.Proofs.Ytecfdcdkkgmkpaa
