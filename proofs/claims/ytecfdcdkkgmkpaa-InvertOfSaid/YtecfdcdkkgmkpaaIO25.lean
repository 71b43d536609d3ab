/- Part 25. Conditions: as each theorem says. -/
import Derived.Test.YtecfdcdkkgmkpaaIO24
import Derived.Test.YtecfdcdkkgmkpaaProg
set_option maxRecDepth 100000
namespace Go.Proofs.Ytecfdcdkkgmkpaa
open Go.RowKit
def tdw:List Stp->List Stp->List Stp->List Stp
 | t,p,[]=>t++p
 | t,p,s::l=>if s.1.1=2 then tdw (t++[s]) p l else if s.1.1=3 then tdw t (p++[s]) l else tdw (t++p++[s]) [] l
theorem NA:∀ (l t d p:List Stp),tdw (t++d) p l=t++tdy d p l
 | [],t,d,p=>by simp[tdw,tdy]
 | s::l,t,d,p=>by
  rw[tdw,tdy]
  split
  ·rw[List.append_assoc,NA l]
  split
  ·rw[NA l]
  ·have:=NA l (t++d++p++[s]) [] []
   rw[List.append_nil]at this
   rw[this]
   simp
theorem V5(l:List Stp):tdw [] [] l=tdy [] [] l:=NA l [] [] []
def PU(p x:Stp):Bool := !(decide (p.1.1=1)&&decide (x.1.1=1))
theorem OM{α:Type}{ok:α->Bool}{ah:α->α->Bool}{x y:α}:∀ {l:List α} {o:Option α} {k:Nat},BF ok ah o l=true->l[k]?=some y->l[k+1]?=some x->ah y x=true
 | [],_,_,_,h,_=>by simp at h
 | z::l,o,k,h,hy,hx=>by
  rw[E1]at h
  cases k with
  | zero=>
   obtain rfl:z=y:=by simpa using hy
   cases l with
   | nil=>simp at hx
   | cons u l=>
    obtain rfl:u=x:=by simpa using hx
    exact((E1.1 h.2.2).2.1 z rfl)
  | succ k=>exact OM h.2.2 (by simpa using hy) (by simpa using hx)
theorem MG{α:Type}{ok:α->Bool}{ah:α->α->Bool}{x y:α}{l:List α}{k:Nat}(h:BF ok ah none l=true)(hx:l[k]?=some x)(hy:D5 l k=some y):ah y x=true:=by
 unfold D5 at hy
 split at hy
 ·cases hy
 ·exact OM h hy (by rw[<- hx];congr 1;omega)
theorem RS{s:Stp}(h:C2 s=true)(hk:s.1.1=1):sK s.1.2.1=s:=by
 rcases(C9 h).2 with⟨_,_,_,a,b⟩ | ⟨k,_⟩ | ⟨k,_⟩
 ·obtain⟨⟨a1,a2,a3⟩,a4⟩:=s
  simp only at hk a b
  subst hk a b
  rfl
 ·omega
 ·omega
theorem N1{t p:List Stp}{x:Stp}{q:Prop}(hx:x.1.1≠1)(hp:∀ s∈p,s.1.1=3)(h:F3 ((t++[x])++p)=1):q:=by
 exfalso
 rcases List.eq_nil_or_concat p with rfl | ⟨m,y,rfl⟩
 ·rw[List.append_nil,EW]at h
  exact hx h
 ·rw[List.concat_eq_append]at h hp
  rw[<- List.append_assoc,EW]at h
  have:=hp y (by simp)
  omega
theorem P4{p:List Stp}{x:Stp}(hp:∀ s∈p,s.1.1=3)(hx:x.1.1=3):∀ s∈p++[x],s.1.1=3:=fun s hs=>by
 rcases List.mem_append.1 hs with h | h
 ·exact hp s h
 ·rw[List.mem_singleton.1 h]
  exact hx
abbrev stB(x:Stp):BL:=[(6,⟨76,bcs (esd x)⟩)]
theorem LQ(t p:List Stp):t.length+p.length=(t++p).length:=List.length_append.symm
theorem IJ(t p:List Stp):t.flatMap B5++p.flatMap B5=(t++p).flatMap B5:=List.flatMap_append.symm
theorem I8(t:List Stp)(x:Stp):t.length+1=(t++[x]).length:=by simp
theorem G0(t:List Stp)(x:Stp):t.flatMap B5++esd x=(t++[x]).flatMap B5:=(IC t x).symm
set_option maxHeartbeats 4000000 in
theorem VZ(l:List Stp)(hl:l.length<=80)(hs:∀ s∈l,C2 s=true)(hn:BF (fun _=>true) PU none l=true):EF Try.prog [] 25 [.one (.row 30 l.length (l.flatMap B5))] (.part (.one (.row 30 (tdy [] [] l).length ((tdy [] [] l).flatMap B5)))):=by
 refine AH 53 Try.func25 rfl rfl rfl fun w D=>?_
 try refine A2 ?_
 refine A1 (AC rfl rfl rfl rfl rfl .nil) ?_
 try refine A2 ?_
 refine A1 (AC rfl rfl rfl rfl rfl (AC rfl rfl rfl rfl rfl .nil)) ?_
 try refine A2 ?_
 refine EV 3 1000 76 30 rfl rfl rfl ?_
 refine EV 4 1001 76 30 rfl rfl rfl ?_
 refine A1 (A9 rfl rfl rfl rfl rfl (A4 rfl rfl rfl (AT rfl (kn rfl) sle_29) (A9 rfl rfl rfl rfl rfl .nil))) ?_
 try refine A2 ?_
 refine BB (ι:={ q:Nat×List Stp×List Stp // q.1<=l.length/\tdw q.2.1 q.2.2 (l.drop q.1)=tdy [] [] l/\q.2.1.length+q.2.2.length<=q.1/\(∀ s∈q.2.2,s.1.1=3)/\(F3 (q.2.1++q.2.2)=1 -> ∃ y,D5 l q.1=some y/\y.1.1=1) })
  (fun q=>[(3,.own 1000),(4,.own 1001),(7,.part (.one (.row 30 l.length (l.flatMap B5)))),(8,.is (.int .i64 (l.length:Int))),(9,.is (.int .i64 (q.1.1:Int)))])
  (fun _=>[]) (fun q=>[(1000,sR q.1.2.1),(1001,sR q.1.2.2)]) (fun q=>l.length-q.1.1) ⟨(0,[],[]),Nat.zero_le _,V5 l,Nat.le_refl _,(fun _ h=>by cases h),(fun h=>by cases h)⟩
  (fun K=>AM ⟨s_t,s_t,s_t,s_t,s_t,trivial⟩ trivial ⟨rfl,rfl,trivial⟩) ?_
 rintro⟨⟨k,t,p⟩,hk,hw,hlen,hp3,hlast⟩
 dsimp only at hk hw hlen hp3 hlast ⊢
 try refine A2 ?_
 refine A1 (A4 rfl rfl rfl (A6 rfl (kn rfl) (kn rfl) B7) .nil) ?_
 try refine A2 ?_
 refine AA rfl (fun h=>?_) (fun h=>?_)
 ·have hlt:k<l.length:=by have:=of_decide_eq_true h;omega
  obtain⟨x,hx⟩:∃ x,l[k]?=some x:=⟨_,List.getElem?_eq_getElem hlt⟩
  have mx:=List.mem_of_getElem? hx
  have hsx:=hs x mx
  have hcx:=(C9 hsx).2
  rw[B6 hx,tdw]at hw
  have stays:∀ q:List Stp,x.1.1≠1->F3 (q++[x])=1 -> ∃ y,D5 l (k+1)=some y/\y.1.1=1:=fun q h1 h2=>absurd ((EW q x).symm.trans h2) h1
  try refine A2 ?_
  refine AF ?_
  refine AG (AL rfl (kn rfl) (kn rfl) (by omega) hx BK sle_29 esz_29 (BJ x)) ?_
  refine AG (AJ rfl (kn rfl) agg_76 sz_76) ?_
  refine AV 6 [.is (.int .i64 0),.is (.int .i64 0),.is (.int .i64 0),.is (.int .u64 0),.is (.string ⟨#[]⟩),.is (.slice none 0 0),.is (.string ⟨#[]⟩),.is (.slice none 0 0),.is (.slice none 0 0),.is (.int .i64 0),.is (.int .i64 0),.is (.int .u64 0),.is (.string ⟨#[]⟩),.is (.slice none 0 0),.is (.string ⟨#[]⟩),.is (.slice none 0 0),.is (.slice none 0 0),.is (.int .i64 0),.is (.int .u64 0),.is (.string ⟨#[]⟩),.is (.slice none 0 0),.is (.string ⟨#[]⟩),.is (.slice none 0 0),.is (.slice none 0 0),.is (.slice none 0 0),.is (.bool false),.is (.string ⟨#[]⟩),.is (.string ⟨#[]⟩),.is (.slice none 0 0),.is (.slice none 0 0)] rfl rfl rfl rfl zr_76 (fun w D M V=>⟨rfl,fun j x v h1 h2=>AU _ h1 h2 rfl⟩) rfl rfl rfl rfl ?_
  refine AP rfl rfl rfl (kn rfl) rfl (kn rfl) rfl rfl sz_76 ?_
  refine AD ?_
  try refine A2 ?_
  refine AF ?_
  refine AG (A7 (ds:=[_,_,_,_,_,_,_,_,_,_,_,_,_,_,_,_,_,_,_,_,_,_,_,_,_,_,_,_,_,_]) 30 rfl (kn rfl) rfl rfl agg_76 sz_76 rfl) ?_
  refine AG (AE rfl (by kernel_rfl) (UR x hsx) ⟨(kn rfl),trivial⟩) ?_
  refine AP rfl rfl rfl (kn rfl) rfl (kn rfl) rfl rfl sz_76 ?_
  refine AD ?_
  try refine A2 ?_
  refine A1 (A4 rfl rfl rfl (A0 rfl (kn rfl) off_76_0) (A4 rfl rfl rfl (A5 rfl (kn rfl) rfl rfl one_3) .nil)) ?_
  try refine A2 ?_
  try refine A2 ?_
  refine A1 (A4 rfl rfl rfl (A6 rfl (kn rfl) (kn rfl) AO) (AC rfl rfl rfl rfl rfl .nil)) ?_
  try refine A2 ?_
  refine AA rfl (fun c1=>?_) (fun c1=>?_)
  ·have k1:=of_decide_eq_true c1
   have hnl:F3 (t++p)≠1:=fun h1=>by
    obtain⟨y,hy,hy1⟩:=hlast h1
    have:=MG hn hx hy
    unfold PU at this
    rw[hy1,k1]at this
    cases this
   have hke:=VQ (t++p) x.1.2.1 (by simp;omega) hnl
   rw[RS hsx k1]at hke
   rw[if_neg (by omega),if_neg (by omega)]at hw
   try refine A2 ?_
   refine AM (T':=[(3,.own 1000),(4,.own 1001),(6,.box 6 0),(7,.part (.one (.row 30 l.length (l.flatMap B5)))),(8,.is (.int .i64 (l.length:Int))),(9,.is (.int .i64 (k:Int)))]) (B':=stB x) (R':=[(1000,sR t),(1001,sR p)]) ⟨s_t,s_t,s_t,s_t,s_t,s_t,trivial⟩ ⟨s_b,trivial⟩ ⟨rfl,rfl,trivial⟩ ?_
   refine HD 10 [[],[],[0,1],[],[3],[2,4,2],[],[6],[5,5,0,1,2,3,4,5],[7,8,0,1,2,3,4,5,6,7,8]] [[false,false,false,false,false,false,false,false,false,false],[true,false,false,false,false,false,false,false,false,false],[false,true,false,false,false,false,false,false,false,false],[false,false,false,true,false,false,false,false,false,false],[false,false,false,false,false,false,true,false,false,false],[true,true,false,false,false,false,false,false,false,false],[true,false,false,true,false,false,false,false,false,false],[true,false,false,false,false,false,true,false,false,false],[false,true,false,true,false,false,false,false,false,false],[false,true,false,false,false,false,true,false,false,false],[false,false,false,true,true,false,false,false,false,false],[false,false,false,true,false,false,true,false,false,false],[false,false,false,false,false,false,true,true,false,false],[true,true,true,false,false,false,false,false,false,false],[true,true,false,true,false,false,false,false,false,false],[true,true,false,false,false,false,true,false,false,false],[true,false,false,true,true,false,false,false,false,false],[true,false,false,true,false,false,true,false,false,false],[true,false,false,false,false,false,true,true,false,false],[false,true,false,true,true,false,false,false,false,false],[false,true,false,true,false,false,true,false,false,false],[false,true,false,false,false,false,true,true,false,false],[false,false,false,true,true,false,true,false,false,false],[false,false,false,true,false,false,true,true,false,false],[true,true,true,true,false,false,false,false,false,false],[true,true,true,false,false,false,true,false,false,false],[true,true,false,true,true,false,false,false,false,false],[true,true,false,true,false,false,true,false,false,false],[true,true,false,false,false,false,true,true,false,false],[true,false,false,true,true,false,true,false,false,false],[true,false,false,true,false,false,true,true,false,false],[false,true,false,true,true,false,true,false,false,false],[false,true,false,true,false,false,true,true,false,false],[false,false,false,true,true,false,true,true,false,false],[true,true,true,true,true,false,false,false,false,false],[true,true,true,true,false,false,true,false,false,false],[true,true,true,false,false,false,true,true,false,false],[true,true,false,true,true,false,true,false,false,false],[true,true,false,true,false,false,true,true,false,false],[true,false,false,true,true,false,true,true,false,false],[false,true,false,true,true,false,true,true,false,false],[true,true,true,true,true,true,false,false,false,false],[true,true,true,true,true,false,true,false,false,false],[true,true,true,true,false,false,true,true,false,false],[true,true,false,true,true,false,true,true,false,false],[true,true,true,true,true,true,true,false,false,false],[true,true,true,true,true,true,false,false,true,false],[true,true,true,true,true,false,true,true,false,false],[true,true,true,true,true,true,true,true,false,false],[true,true,true,true,true,true,true,false,true,false],[true,true,true,true,true,true,true,true,true,false],[true,true,true,true,true,true,true,true,true,true]] [([false,false,false,false,false,false,false,false,false,false],0),([false,false,false,false,false,false,false,false,false,false],1),([false,false,false,false,false,false,false,false,false,false],3),([false,false,false,false,false,false,false,false,false,false],6),([true,false,false,false,false,false,false,false,false,false],1),([true,false,false,false,false,false,false,false,false,false],3),([true,false,false,false,false,false,false,false,false,false],6),([false,true,false,false,false,false,false,false,false,false],0),([false,true,false,false,false,false,false,false,false,false],3),([false,true,false,false,false,false,false,false,false,false],6),([false,false,false,true,false,false,false,false,false,false],0),([false,false,false,true,false,false,false,false,false,false],1),([false,false,false,true,false,false,false,false,false,false],4),([false,false,false,true,false,false,false,false,false,false],6),([false,false,false,false,false,false,true,false,false,false],0),([false,false,false,false,false,false,true,false,false,false],1),([false,false,false,false,false,false,true,false,false,false],3),([false,false,false,false,false,false,true,false,false,false],7),([true,true,false,false,false,false,false,false,false,false],2),([true,true,false,false,false,false,false,false,false,false],3),([true,true,false,false,false,false,false,false,false,false],6),([true,false,false,true,false,false,false,false,false,false],1),([true,false,false,true,false,false,false,false,false,false],4),([true,false,false,true,false,false,false,false,false,false],6),([true,false,false,false,false,false,true,false,false,false],1),([true,false,false,false,false,false,true,false,false,false],3),([true,false,false,false,false,false,true,false,false,false],7),([false,true,false,true,false,false,false,false,false,false],0),([false,true,false,true,false,false,false,false,false,false],4),([false,true,false,true,false,false,false,false,false,false],6),([false,true,false,false,false,false,true,false,false,false],0),([false,true,false,false,false,false,true,false,false,false],3),([false,true,false,false,false,false,true,false,false,false],7),([false,false,false,true,true,false,false,false,false,false],0),([false,false,false,true,true,false,false,false,false,false],1),([false,false,false,true,true,false,false,false,false,false],6),([false,false,false,true,false,false,true,false,false,false],0),([false,false,false,true,false,false,true,false,false,false],1),([false,false,false,true,false,false,true,false,false,false],4),([false,false,false,true,false,false,true,false,false,false],7),([false,false,false,false,false,false,true,true,false,false],0),([false,false,false,false,false,false,true,true,false,false],1),([false,false,false,false,false,false,true,true,false,false],3),([true,true,true,false,false,false,false,false,false,false],3),([true,true,true,false,false,false,false,false,false,false],6),([true,true,false,true,false,false,false,false,false,false],2),([true,true,false,true,false,false,false,false,false,false],4),([true,true,false,true,false,false,false,false,false,false],6),([true,true,false,false,false,false,true,false,false,false],2),([true,true,false,false,false,false,true,false,false,false],3),([true,true,false,false,false,false,true,false,false,false],7),([true,false,false,true,true,false,false,false,false,false],1),([true,false,false,true,true,false,false,false,false,false],6),([true,false,false,true,false,false,true,false,false,false],1),([true,false,false,true,false,false,true,false,false,false],4),([true,false,false,true,false,false,true,false,false,false],7),([true,false,false,false,false,false,true,true,false,false],1),([true,false,false,false,false,false,true,true,false,false],3),([false,true,false,true,true,false,false,false,false,false],0),([false,true,false,true,true,false,false,false,false,false],6),([false,true,false,true,false,false,true,false,false,false],0),([false,true,false,true,false,false,true,false,false,false],4),([false,true,false,true,false,false,true,false,false,false],7),([false,true,false,false,false,false,true,true,false,false],0),([false,true,false,false,false,false,true,true,false,false],3),([false,false,false,true,true,false,true,false,false,false],0),([false,false,false,true,true,false,true,false,false,false],1),([false,false,false,true,true,false,true,false,false,false],7),([false,false,false,true,false,false,true,true,false,false],0),([false,false,false,true,false,false,true,true,false,false],1),([false,false,false,true,false,false,true,true,false,false],4),([true,true,true,true,false,false,false,false,false,false],4),([true,true,true,true,false,false,false,false,false,false],6),([true,true,true,false,false,false,true,false,false,false],3),([true,true,true,false,false,false,true,false,false,false],7),([true,true,false,true,true,false,false,false,false,false],2),([true,true,false,true,true,false,false,false,false,false],6),([true,true,false,true,false,false,true,false,false,false],2),([true,true,false,true,false,false,true,false,false,false],4),([true,true,false,true,false,false,true,false,false,false],7),([true,true,false,false,false,false,true,true,false,false],2),([true,true,false,false,false,false,true,true,false,false],3),([true,false,false,true,true,false,true,false,false,false],1),([true,false,false,true,true,false,true,false,false,false],7),([true,false,false,true,false,false,true,true,false,false],1),([true,false,false,true,false,false,true,true,false,false],4),([false,true,false,true,true,false,true,false,false,false],0),([false,true,false,true,true,false,true,false,false,false],7),([false,true,false,true,false,false,true,true,false,false],0),([false,true,false,true,false,false,true,true,false,false],4),([false,false,false,true,true,false,true,true,false,false],0),([false,false,false,true,true,false,true,true,false,false],1),([true,true,true,true,true,false,false,false,false,false],5),([true,true,true,true,true,false,false,false,false,false],6),([true,true,true,true,false,false,true,false,false,false],4),([true,true,true,true,false,false,true,false,false,false],7),([true,true,true,false,false,false,true,true,false,false],3),([true,true,false,true,true,false,true,false,false,false],2),([true,true,false,true,true,false,true,false,false,false],7),([true,true,false,true,false,false,true,true,false,false],2),([true,true,false,true,false,false,true,true,false,false],4),([true,false,false,true,true,false,true,true,false,false],1),([false,true,false,true,true,false,true,true,false,false],0),([true,true,true,true,true,true,false,false,false,false],6),([true,true,true,true,true,true,false,false,false,false],8),([true,true,true,true,true,false,true,false,false,false],5),([true,true,true,true,true,false,true,false,false,false],7),([true,true,true,true,false,false,true,true,false,false],4),([true,true,false,true,true,false,true,true,false,false],2),([true,true,true,true,true,true,true,false,false,false],7),([true,true,true,true,true,true,true,false,false,false],8),([true,true,true,true,true,true,false,false,true,false],6),([true,true,true,true,true,false,true,true,false,false],5),([true,true,true,true,true,true,true,true,false,false],8),([true,true,true,true,true,true,true,false,true,false],7),([true,true,true,true,true,true,true,true,true,false],9)] [(9,4,.via 1001 (R8 0)),(8,3,.own 1000),(2,3,.junk),(5,24,.own 1000),(5,21,.junk),(2,21,.own 1000),(2,19,.junk),(0,19,.own 1000),(1,20,.own 1001),(3,22,.box 6 1),(4,23,.is (.int .i64 x.1.2.1)),(6,25,.own 1001),(7,26,.via 1001 (R8 0))] [] [(5,1000,sR (t++p++[x])),(2,1000,sR (t++p))] [(3,.own 1000),(4,.own 1001),(6,.box 6 0),(7,.part (.one (.row 30 l.length (l.flatMap B5)))),(8,.is (.int .i64 (l.length:Int))),(9,.is (.int .i64 (k:Int)))] [(6,⟨76,bcs (esd x)⟩)] [(1000,sR t),(1001,sR p)] (by kernel_rfl) rfl C5 (by kernel_rfl) (by decide) (fun K h=>h) ?_ ?_
   ·repeat' first
     | exact trivial
     | refine And.intro ?_ ?_
    all_goals
     intro K hK
     replace hK:=RR (RZ (VF hK))
     first
      | (refine BC (i:=0) rfl (fun h=>h) ?_;refine BA ?_;refine AD ?_;refine A2 ?_;exact AY hK (by repeat' first | exact trivial | refine And.intro s_t ?_) (by repeat' first | exact trivial | refine And.intro s_b ?_) (by repeat' first | exact trivial | refine And.intro rfl ?_))
      | (refine BC (i:=1) rfl (fun h=>h) ?_;refine BA ?_;refine AD ?_;refine A2 ?_;exact AY hK (by repeat' first | exact trivial | refine And.intro s_t ?_) (by repeat' first | exact trivial | refine And.intro s_b ?_) (by repeat' first | exact trivial | refine And.intro rfl ?_))
      | (refine BC (i:=2) rfl (fun h=>h) ?_;refine JH rfl rfl rfl rfl (kn rfl) rfl (kn rfl) rfl sl_29 ap_29 rfl (FJ p) (by first | omega | (dsimp only;omega)) (by first | omega | (dsimp only;omega)) ?_;refine CP (LQ t p) (IJ t p) ?_;refine AD ?_;refine A2 ?_;exact AY hK (by repeat' first | exact trivial | refine And.intro s_t ?_) (by repeat' first | exact trivial | refine And.intro s_b ?_) (by repeat' first | exact trivial | refine And.intro rfl ?_))
      | (refine BC (i:=3) rfl (fun h=>h) ?_;refine AG (A0 rfl (kn rfl) off_76_1) ?_;refine AD ?_;refine A2 ?_;exact AY hK (by repeat' first | exact trivial | refine And.intro s_t ?_) (by repeat' first | exact trivial | refine And.intro s_b ?_) (by repeat' first | exact trivial | refine And.intro rfl ?_))
      | (refine BC (i:=4) rfl (fun h=>h) ?_;refine AG (A5 rfl (kn rfl) rfl rfl one_3) ?_;refine AD ?_;refine A2 ?_;exact AY hK (by repeat' first | exact trivial | refine And.intro s_t ?_) (by repeat' first | exact trivial | refine And.intro s_b ?_) (by repeat' first | exact trivial | refine And.intro rfl ?_))
      | (refine BC (i:=5) rfl (fun h=>h) ?_;refine IZ rfl rfl rfl rfl (by kernel_rfl) (hke) trivial ⟨rfl,trivial⟩ ⟨(kn rfl),⟨(kn rfl),trivial⟩⟩ (YK.tidy) ?_;rintro _ _ _ ⟨rfl,rfl,rfl⟩;refine AD ?_;refine A2 ?_;exact AY hK (by repeat' first | exact trivial | refine And.intro s_t ?_) (by repeat' first | exact trivial | refine And.intro s_b ?_) (by repeat' first | exact trivial | refine And.intro rfl ?_))
      | (refine BC (i:=6) rfl (fun h=>h) ?_;refine BA ?_;refine AD ?_;refine A2 ?_;exact AY hK (by repeat' first | exact trivial | refine And.intro s_t ?_) (by repeat' first | exact trivial | refine And.intro s_b ?_) (by repeat' first | exact trivial | refine And.intro rfl ?_))
      | (refine BC (i:=7) rfl (fun h=>h) ?_;refine AG (MZ rfl (kn rfl) rfl (kn rfl) ⟨Int.le_refl _,Int.natCast_nonneg _⟩ sle_29 esz_29) ?_;refine AD ?_;refine A2 ?_;exact AY hK (by repeat' first | exact trivial | refine And.intro s_t ?_) (by repeat' first | exact trivial | refine And.intro s_b ?_) (by repeat' first | exact trivial | refine And.intro rfl ?_))
      | (refine BC (i:=8) rfl (fun h=>h) ?_;refine BY ?_;refine AD ?_;refine A2 ?_;exact AY hK (by repeat' first | exact trivial | refine And.intro s_t ?_) (by repeat' first | exact trivial | refine And.intro s_b ?_) (by repeat' first | exact trivial | refine And.intro rfl ?_))
      | (refine BC (i:=9) rfl (fun h=>h) ?_;refine BY ?_;refine AD ?_;refine A2 ?_;exact AY hK (by repeat' first | exact trivial | refine And.intro s_t ?_) (by repeat' first | exact trivial | refine And.intro s_b ?_) (by repeat' first | exact trivial | refine And.intro rfl ?_))
   try refine A2 ?_
   refine QB (t:=4) (r:=1001) rfl rfl ?_
   refine A1 (A4 rfl rfl rfl (A6 rfl (kn rfl) (kn rfl) (AS (by first | omega | (dsimp only;omega)))) (A9 rfl rfl rfl rfl rfl .nil)) ?_
   try refine A2 ?_
   refine AR ⟨(k+1,t++p++[x],[]),by dsimp only;omega,by dsimp only;rw[<- hw,hw],by simp only[List.length_append,List.length_cons,List.length_nil];omega,(fun _ h=>(by cases h)),(fun _=>⟨x,HM hx,k1⟩)⟩ (by dsimp only;omega) (fun K=>AM ⟨s_t,s_t,s_t,s_t,s_t,trivial⟩ trivial ⟨rfl,rfl,trivial⟩)
  have n1:=of_decide_eq_false c1
  try refine A2 ?_
  refine A1 (A4 rfl rfl rfl (A6 rfl (kn rfl) (kn rfl) AO) (AC rfl rfl rfl rfl rfl .nil)) ?_
  try refine A2 ?_
  refine AA rfl (fun c2=>?_) (fun c2=>?_)
  ·have k2:=of_decide_eq_true c2
   rw[if_pos k2]at hw
   try refine A2 ?_
   refine AF ?_
   refine BA ?_
   refine AG (A7 (ds:=[_,_,_,_,_,_,_,_,_,_,_,_,_,_,_,_,_,_,_,_,_,_,_,_,_,_,_,_,_,_]) 30 rfl (kn rfl) rfl rfl agg_76 sz_76 rfl) ?_
   refine AG (B2 (ds:=[_,_,_,_,_,_,_,_,_,_,_,_,_,_,_,_,_,_,_,_,_,_,_,_,_,_,_,_,_,_]) [(0,_)] rfl ⟨rfl,(kn rfl),trivial⟩ rfl sl_29 sz_76 zr_76 (fun w D=>.cons (.cell _) (.cons (.cell _) (.cons (.cell _) (.cons (.cell _) (.cons (.cell _) (.cons (.cell _) (.cons (.cell _) (.cons (.cell _) (.cons (.cell _) (.cons (.cell _) (.cons (.cell _) (.cons (.cell _) (.cons (.cell _) (.cons (.cell _) (.cons (.cell _) (.cons (.cell _) (.cons (.cell _) (.cons (.cell _) (.cons (.cell _) (.cons (.cell _) (.cons (.cell _) (.cons (.cell _) (.cons (.cell _) (.cons (.cell _) (.cons (.cell _) (.cons (.cell _) (.cons (.cell _) (.cons (.cell _) (.cons (.cell _) (.cons (.cell _) (.nil _ _))))))))))))))))))))))))))))))) rfl rfl rfl rfl rfl) ?_
   refine BP rfl rfl rfl rfl (kn rfl) rfl (kn rfl) sl_29 ap_29 rfl rfl (by first | omega | (dsimp only;omega)) (by first | omega | (dsimp only;omega)) ?_
   refine BY ?_
   refine AD ?_
   try refine A2 ?_
   refine CP (I8 t x) (G0 t x) ?_
   refine A1 (A4 rfl rfl rfl (A6 rfl (kn rfl) (kn rfl) (AS (by first | omega | (dsimp only;omega)))) (A9 rfl rfl rfl rfl rfl .nil)) ?_
   try refine A2 ?_
   refine AR ⟨(k+1,t++[x],p),by dsimp only;omega,by dsimp only;rw[<- hw,hw],by simp only[List.length_append,List.length_cons,List.length_nil];omega,hp3,(fun h2=>N1 (by omega) hp3 h2)⟩ (by dsimp only;omega) (fun K=>AM ⟨s_t,s_t,s_t,s_t,s_t,trivial⟩ trivial ⟨rfl,rfl,trivial⟩)
  have n2:=of_decide_eq_false c2
  rw[if_neg n2]at hw
  try refine A2 ?_
  refine A1 (A4 rfl rfl rfl (A6 rfl (kn rfl) (kn rfl) AO) (AC rfl rfl rfl rfl rfl .nil)) ?_
  try refine A2 ?_
  refine AA rfl (fun c3=>?_) (fun c3=>?_)
  ·have k3:=of_decide_eq_true c3
   rw[if_pos k3]at hw
   try refine A2 ?_
   refine AF ?_
   refine BA ?_
   refine AG (A7 (ds:=[_,_,_,_,_,_,_,_,_,_,_,_,_,_,_,_,_,_,_,_,_,_,_,_,_,_,_,_,_,_]) 30 rfl (kn rfl) rfl rfl agg_76 sz_76 rfl) ?_
   refine AG (B2 (ds:=[_,_,_,_,_,_,_,_,_,_,_,_,_,_,_,_,_,_,_,_,_,_,_,_,_,_,_,_,_,_]) [(0,_)] rfl ⟨rfl,(kn rfl),trivial⟩ rfl sl_29 sz_76 zr_76 (fun w D=>.cons (.cell _) (.cons (.cell _) (.cons (.cell _) (.cons (.cell _) (.cons (.cell _) (.cons (.cell _) (.cons (.cell _) (.cons (.cell _) (.cons (.cell _) (.cons (.cell _) (.cons (.cell _) (.cons (.cell _) (.cons (.cell _) (.cons (.cell _) (.cons (.cell _) (.cons (.cell _) (.cons (.cell _) (.cons (.cell _) (.cons (.cell _) (.cons (.cell _) (.cons (.cell _) (.cons (.cell _) (.cons (.cell _) (.cons (.cell _) (.cons (.cell _) (.cons (.cell _) (.cons (.cell _) (.cons (.cell _) (.cons (.cell _) (.cons (.cell _) (.nil _ _))))))))))))))))))))))))))))))) rfl rfl rfl rfl rfl) ?_
   refine BP rfl rfl rfl rfl (kn rfl) rfl (kn rfl) sl_29 ap_29 rfl rfl (by first | omega | (dsimp only;omega)) (by first | omega | (dsimp only;omega)) ?_
   refine BY ?_
   refine AD ?_
   try refine A2 ?_
   refine CP (I8 p x) (G0 p x) ?_
   refine A1 (A4 rfl rfl rfl (A6 rfl (kn rfl) (kn rfl) (AS (by first | omega | (dsimp only;omega)))) (A9 rfl rfl rfl rfl rfl .nil)) ?_
   try refine A2 ?_
   refine AR ⟨(k+1,t,p++[x]),by dsimp only;omega,by dsimp only;rw[<- hw,hw],by simp only[List.length_append,List.length_cons,List.length_nil];omega,(P4 hp3 k3),(fun h2=>stays (t++p) n1 (by rw[List.append_assoc];exact h2))⟩ (by dsimp only;omega) (fun K=>AM ⟨s_t,s_t,s_t,s_t,s_t,trivial⟩ trivial ⟨rfl,rfl,trivial⟩)
  have n3:=of_decide_eq_false c3
  rw[if_neg n3]at hw
  have k4:x.1.1=4:=by omega
  try refine A2 ?_
  refine A1 (A4 rfl rfl rfl (A6 rfl (kn rfl) (kn rfl) AO) (AC rfl rfl rfl rfl rfl .nil)) ?_
  try refine A2 ?_
  refine AA rfl (fun c4=>?_) (fun c4=>absurd k4 (of_decide_eq_false c4))
  try refine A2 ?_
  refine AM (T':=[(3,.own 1000),(4,.own 1001),(6,.box 6 0),(7,.part (.one (.row 30 l.length (l.flatMap B5)))),(8,.is (.int .i64 (l.length:Int))),(9,.is (.int .i64 (k:Int)))]) (B':=stB x) (R':=[(1000,sR t),(1001,sR p)]) ⟨s_t,s_t,s_t,s_t,s_t,s_t,trivial⟩ ⟨s_b,trivial⟩ ⟨rfl,rfl,trivial⟩ ?_
  refine HD 10 [[],[],[0,1],[],[3],[2,4,2],[],[6],[5,5,0,1,2,3,4,5],[7,8,0,1,2,3,4,5,6,7,8]] [[false,false,false,false,false,false,false,false,false,false],[true,false,false,false,false,false,false,false,false,false],[false,true,false,false,false,false,false,false,false,false],[false,false,false,true,false,false,false,false,false,false],[false,false,false,false,false,false,true,false,false,false],[true,true,false,false,false,false,false,false,false,false],[true,false,false,true,false,false,false,false,false,false],[true,false,false,false,false,false,true,false,false,false],[false,true,false,true,false,false,false,false,false,false],[false,true,false,false,false,false,true,false,false,false],[false,false,false,true,true,false,false,false,false,false],[false,false,false,true,false,false,true,false,false,false],[false,false,false,false,false,false,true,true,false,false],[true,true,true,false,false,false,false,false,false,false],[true,true,false,true,false,false,false,false,false,false],[true,true,false,false,false,false,true,false,false,false],[true,false,false,true,true,false,false,false,false,false],[true,false,false,true,false,false,true,false,false,false],[true,false,false,false,false,false,true,true,false,false],[false,true,false,true,true,false,false,false,false,false],[false,true,false,true,false,false,true,false,false,false],[false,true,false,false,false,false,true,true,false,false],[false,false,false,true,true,false,true,false,false,false],[false,false,false,true,false,false,true,true,false,false],[true,true,true,true,false,false,false,false,false,false],[true,true,true,false,false,false,true,false,false,false],[true,true,false,true,true,false,false,false,false,false],[true,true,false,true,false,false,true,false,false,false],[true,true,false,false,false,false,true,true,false,false],[true,false,false,true,true,false,true,false,false,false],[true,false,false,true,false,false,true,true,false,false],[false,true,false,true,true,false,true,false,false,false],[false,true,false,true,false,false,true,true,false,false],[false,false,false,true,true,false,true,true,false,false],[true,true,true,true,true,false,false,false,false,false],[true,true,true,true,false,false,true,false,false,false],[true,true,true,false,false,false,true,true,false,false],[true,true,false,true,true,false,true,false,false,false],[true,true,false,true,false,false,true,true,false,false],[true,false,false,true,true,false,true,true,false,false],[false,true,false,true,true,false,true,true,false,false],[true,true,true,true,true,true,false,false,false,false],[true,true,true,true,true,false,true,false,false,false],[true,true,true,true,false,false,true,true,false,false],[true,true,false,true,true,false,true,true,false,false],[true,true,true,true,true,true,true,false,false,false],[true,true,true,true,true,true,false,false,true,false],[true,true,true,true,true,false,true,true,false,false],[true,true,true,true,true,true,true,true,false,false],[true,true,true,true,true,true,true,false,true,false],[true,true,true,true,true,true,true,true,true,false],[true,true,true,true,true,true,true,true,true,true]] [([false,false,false,false,false,false,false,false,false,false],0),([false,false,false,false,false,false,false,false,false,false],1),([false,false,false,false,false,false,false,false,false,false],3),([false,false,false,false,false,false,false,false,false,false],6),([true,false,false,false,false,false,false,false,false,false],1),([true,false,false,false,false,false,false,false,false,false],3),([true,false,false,false,false,false,false,false,false,false],6),([false,true,false,false,false,false,false,false,false,false],0),([false,true,false,false,false,false,false,false,false,false],3),([false,true,false,false,false,false,false,false,false,false],6),([false,false,false,true,false,false,false,false,false,false],0),([false,false,false,true,false,false,false,false,false,false],1),([false,false,false,true,false,false,false,false,false,false],4),([false,false,false,true,false,false,false,false,false,false],6),([false,false,false,false,false,false,true,false,false,false],0),([false,false,false,false,false,false,true,false,false,false],1),([false,false,false,false,false,false,true,false,false,false],3),([false,false,false,false,false,false,true,false,false,false],7),([true,true,false,false,false,false,false,false,false,false],2),([true,true,false,false,false,false,false,false,false,false],3),([true,true,false,false,false,false,false,false,false,false],6),([true,false,false,true,false,false,false,false,false,false],1),([true,false,false,true,false,false,false,false,false,false],4),([true,false,false,true,false,false,false,false,false,false],6),([true,false,false,false,false,false,true,false,false,false],1),([true,false,false,false,false,false,true,false,false,false],3),([true,false,false,false,false,false,true,false,false,false],7),([false,true,false,true,false,false,false,false,false,false],0),([false,true,false,true,false,false,false,false,false,false],4),([false,true,false,true,false,false,false,false,false,false],6),([false,true,false,false,false,false,true,false,false,false],0),([false,true,false,false,false,false,true,false,false,false],3),([false,true,false,false,false,false,true,false,false,false],7),([false,false,false,true,true,false,false,false,false,false],0),([false,false,false,true,true,false,false,false,false,false],1),([false,false,false,true,true,false,false,false,false,false],6),([false,false,false,true,false,false,true,false,false,false],0),([false,false,false,true,false,false,true,false,false,false],1),([false,false,false,true,false,false,true,false,false,false],4),([false,false,false,true,false,false,true,false,false,false],7),([false,false,false,false,false,false,true,true,false,false],0),([false,false,false,false,false,false,true,true,false,false],1),([false,false,false,false,false,false,true,true,false,false],3),([true,true,true,false,false,false,false,false,false,false],3),([true,true,true,false,false,false,false,false,false,false],6),([true,true,false,true,false,false,false,false,false,false],2),([true,true,false,true,false,false,false,false,false,false],4),([true,true,false,true,false,false,false,false,false,false],6),([true,true,false,false,false,false,true,false,false,false],2),([true,true,false,false,false,false,true,false,false,false],3),([true,true,false,false,false,false,true,false,false,false],7),([true,false,false,true,true,false,false,false,false,false],1),([true,false,false,true,true,false,false,false,false,false],6),([true,false,false,true,false,false,true,false,false,false],1),([true,false,false,true,false,false,true,false,false,false],4),([true,false,false,true,false,false,true,false,false,false],7),([true,false,false,false,false,false,true,true,false,false],1),([true,false,false,false,false,false,true,true,false,false],3),([false,true,false,true,true,false,false,false,false,false],0),([false,true,false,true,true,false,false,false,false,false],6),([false,true,false,true,false,false,true,false,false,false],0),([false,true,false,true,false,false,true,false,false,false],4),([false,true,false,true,false,false,true,false,false,false],7),([false,true,false,false,false,false,true,true,false,false],0),([false,true,false,false,false,false,true,true,false,false],3),([false,false,false,true,true,false,true,false,false,false],0),([false,false,false,true,true,false,true,false,false,false],1),([false,false,false,true,true,false,true,false,false,false],7),([false,false,false,true,false,false,true,true,false,false],0),([false,false,false,true,false,false,true,true,false,false],1),([false,false,false,true,false,false,true,true,false,false],4),([true,true,true,true,false,false,false,false,false,false],4),([true,true,true,true,false,false,false,false,false,false],6),([true,true,true,false,false,false,true,false,false,false],3),([true,true,true,false,false,false,true,false,false,false],7),([true,true,false,true,true,false,false,false,false,false],2),([true,true,false,true,true,false,false,false,false,false],6),([true,true,false,true,false,false,true,false,false,false],2),([true,true,false,true,false,false,true,false,false,false],4),([true,true,false,true,false,false,true,false,false,false],7),([true,true,false,false,false,false,true,true,false,false],2),([true,true,false,false,false,false,true,true,false,false],3),([true,false,false,true,true,false,true,false,false,false],1),([true,false,false,true,true,false,true,false,false,false],7),([true,false,false,true,false,false,true,true,false,false],1),([true,false,false,true,false,false,true,true,false,false],4),([false,true,false,true,true,false,true,false,false,false],0),([false,true,false,true,true,false,true,false,false,false],7),([false,true,false,true,false,false,true,true,false,false],0),([false,true,false,true,false,false,true,true,false,false],4),([false,false,false,true,true,false,true,true,false,false],0),([false,false,false,true,true,false,true,true,false,false],1),([true,true,true,true,true,false,false,false,false,false],5),([true,true,true,true,true,false,false,false,false,false],6),([true,true,true,true,false,false,true,false,false,false],4),([true,true,true,true,false,false,true,false,false,false],7),([true,true,true,false,false,false,true,true,false,false],3),([true,true,false,true,true,false,true,false,false,false],2),([true,true,false,true,true,false,true,false,false,false],7),([true,true,false,true,false,false,true,true,false,false],2),([true,true,false,true,false,false,true,true,false,false],4),([true,false,false,true,true,false,true,true,false,false],1),([false,true,false,true,true,false,true,true,false,false],0),([true,true,true,true,true,true,false,false,false,false],6),([true,true,true,true,true,true,false,false,false,false],8),([true,true,true,true,true,false,true,false,false,false],5),([true,true,true,true,true,false,true,false,false,false],7),([true,true,true,true,false,false,true,true,false,false],4),([true,true,false,true,true,false,true,true,false,false],2),([true,true,true,true,true,true,true,false,false,false],7),([true,true,true,true,true,true,true,false,false,false],8),([true,true,true,true,true,true,false,false,true,false],6),([true,true,true,true,true,false,true,true,false,false],5),([true,true,true,true,true,true,true,true,false,false],8),([true,true,true,true,true,true,true,false,true,false],7),([true,true,true,true,true,true,true,true,true,false],9)] [(9,4,.via 1001 (R8 0)),(8,3,.own 1000),(2,3,.junk),(5,46,.own 1000),(5,43,.junk),(2,43,.own 1000),(2,41,.junk),(0,41,.own 1000),(1,42,.own 1001),(3,44,.part (.many (esd x))),(4,45,.part (.one (.row 30 1 (esd x)))),(6,47,.own 1001),(7,48,.via 1001 (R8 0))] [] [(5,1000,sR (t++p++[x])),(2,1000,sR (t++p))] [(3,.own 1000),(4,.own 1001),(6,.box 6 0),(7,.part (.one (.row 30 l.length (l.flatMap B5)))),(8,.is (.int .i64 (l.length:Int))),(9,.is (.int .i64 (k:Int)))] [(6,⟨76,bcs (esd x)⟩)] [(1000,sR t),(1001,sR p)] (by kernel_rfl) rfl C5 (by kernel_rfl) (by decide) (fun K h=>h) ?_ ?_
  ·repeat' first
    | exact trivial
    | refine And.intro ?_ ?_
   all_goals
    intro K hK
    replace hK:=RR (RZ (VF hK))
    first
     | (refine BC (i:=0) rfl (fun h=>h) ?_;refine BA ?_;refine AD ?_;refine A2 ?_;exact AY hK (by repeat' first | exact trivial | refine And.intro s_t ?_) (by repeat' first | exact trivial | refine And.intro s_b ?_) (by repeat' first | exact trivial | refine And.intro rfl ?_))
     | (refine BC (i:=1) rfl (fun h=>h) ?_;refine BA ?_;refine AD ?_;refine A2 ?_;exact AY hK (by repeat' first | exact trivial | refine And.intro s_t ?_) (by repeat' first | exact trivial | refine And.intro s_b ?_) (by repeat' first | exact trivial | refine And.intro rfl ?_))
     | (refine BC (i:=2) rfl (fun h=>h) ?_;refine JH rfl rfl rfl rfl (kn rfl) rfl (kn rfl) rfl sl_29 ap_29 rfl (FJ p) (by first | omega | (dsimp only;omega)) (by first | omega | (dsimp only;omega)) ?_;refine CP (LQ t p) (IJ t p) ?_;refine AD ?_;refine A2 ?_;exact AY hK (by repeat' first | exact trivial | refine And.intro s_t ?_) (by repeat' first | exact trivial | refine And.intro s_b ?_) (by repeat' first | exact trivial | refine And.intro rfl ?_))
     | (refine BC (i:=3) rfl (fun h=>h) ?_;refine AG (A7 (ds:=[_,_,_,_,_,_,_,_,_,_,_,_,_,_,_,_,_,_,_,_,_,_,_,_,_,_,_,_,_,_]) 30 rfl (kn rfl) rfl rfl agg_76 sz_76 rfl) ?_;refine AD ?_;refine A2 ?_;exact AY hK (by repeat' first | exact trivial | refine And.intro s_t ?_) (by repeat' first | exact trivial | refine And.intro s_b ?_) (by repeat' first | exact trivial | refine And.intro rfl ?_))
     | (refine BC (i:=4) rfl (fun h=>h) ?_;refine AG (B2 (ds:=[_,_,_,_,_,_,_,_,_,_,_,_,_,_,_,_,_,_,_,_,_,_,_,_,_,_,_,_,_,_]) [(0,_)] rfl ⟨rfl,(kn rfl),trivial⟩ rfl sl_29 sz_76 zr_76 (fun w D=>.cons (.cell _) (.cons (.cell _) (.cons (.cell _) (.cons (.cell _) (.cons (.cell _) (.cons (.cell _) (.cons (.cell _) (.cons (.cell _) (.cons (.cell _) (.cons (.cell _) (.cons (.cell _) (.cons (.cell _) (.cons (.cell _) (.cons (.cell _) (.cons (.cell _) (.cons (.cell _) (.cons (.cell _) (.cons (.cell _) (.cons (.cell _) (.cons (.cell _) (.cons (.cell _) (.cons (.cell _) (.cons (.cell _) (.cons (.cell _) (.cons (.cell _) (.cons (.cell _) (.cons (.cell _) (.cons (.cell _) (.cons (.cell _) (.cons (.cell _) (.nil _ _))))))))))))))))))))))))))))))) rfl rfl rfl rfl rfl) ?_;refine AD ?_;refine A2 ?_;exact AY hK (by repeat' first | exact trivial | refine And.intro s_t ?_) (by repeat' first | exact trivial | refine And.intro s_b ?_) (by repeat' first | exact trivial | refine And.intro rfl ?_))
     | (refine BC (i:=5) rfl (fun h=>h) ?_;refine BP rfl rfl rfl rfl (kn rfl) rfl (kn rfl) sl_29 ap_29 rfl rfl (by simp only[List.length_append];omega) (by simp only[List.length_append];omega) ?_;refine CP (I8 (t++p) x) (G0 (t++p) x) ?_;refine AD ?_;refine A2 ?_;exact AY hK (by repeat' first | exact trivial | refine And.intro s_t ?_) (by repeat' first | exact trivial | refine And.intro s_b ?_) (by repeat' first | exact trivial | refine And.intro rfl ?_))
     | (refine BC (i:=6) rfl (fun h=>h) ?_;refine BA ?_;refine AD ?_;refine A2 ?_;exact AY hK (by repeat' first | exact trivial | refine And.intro s_t ?_) (by repeat' first | exact trivial | refine And.intro s_b ?_) (by repeat' first | exact trivial | refine And.intro rfl ?_))
     | (refine BC (i:=7) rfl (fun h=>h) ?_;refine AG (MZ rfl (kn rfl) rfl (kn rfl) ⟨Int.le_refl _,Int.natCast_nonneg _⟩ sle_29 esz_29) ?_;refine AD ?_;refine A2 ?_;exact AY hK (by repeat' first | exact trivial | refine And.intro s_t ?_) (by repeat' first | exact trivial | refine And.intro s_b ?_) (by repeat' first | exact trivial | refine And.intro rfl ?_))
     | (refine BC (i:=8) rfl (fun h=>h) ?_;refine BY ?_;refine AD ?_;refine A2 ?_;exact AY hK (by repeat' first | exact trivial | refine And.intro s_t ?_) (by repeat' first | exact trivial | refine And.intro s_b ?_) (by repeat' first | exact trivial | refine And.intro rfl ?_))
     | (refine BC (i:=9) rfl (fun h=>h) ?_;refine BY ?_;refine AD ?_;refine A2 ?_;exact AY hK (by repeat' first | exact trivial | refine And.intro s_t ?_) (by repeat' first | exact trivial | refine And.intro s_b ?_) (by repeat' first | exact trivial | refine And.intro rfl ?_))
  try refine A2 ?_
  refine QB (t:=4) (r:=1001) rfl rfl ?_
  refine A1 (A4 rfl rfl rfl (A6 rfl (kn rfl) (kn rfl) (AS (by first | omega | (dsimp only;omega)))) (A9 rfl rfl rfl rfl rfl .nil)) ?_
  try refine A2 ?_
  refine AR ⟨(k+1,t++p++[x],[]),by dsimp only;omega,by dsimp only;rw[<- hw,hw],by simp only[List.length_append,List.length_cons,List.length_nil];omega,(fun _ h=>(by cases h)),(fun h2=>stays (t++p) n1 (by rw[List.append_nil]at h2;exact h2))⟩ (by dsimp only;omega) (fun K=>AM ⟨s_t,s_t,s_t,s_t,s_t,trivial⟩ trivial ⟨rfl,rfl,trivial⟩)
 have hkl:l.length<=k:=by have:=of_decide_eq_false h;omega
 rw[List.drop_eq_nil_of_le hkl,tdw]at hw
 rw[<- hw]
 try refine A2 ?_
 refine AF ?_
 refine BA ?_
 refine BA ?_
 refine JH rfl rfl rfl rfl (kn rfl) rfl (kn rfl) rfl sl_29 ap_29 rfl (FJ p) (by first | omega | (dsimp only;omega)) (by first | omega | (dsimp only;omega)) ?_
 refine CP (LQ t p) (IJ t p) ?_
 refine BY ?_
 refine AD ?_
 try refine A2 ?_
 refine BU 2 1000 rfl rfl rfl ?_
 exact A8 rfl rfl (.tmp (kn rfl) (.nil)) (Imp.of_eq rfl) rfl
end Go.Proofs.Ytecfdcdkkgmkpaa
