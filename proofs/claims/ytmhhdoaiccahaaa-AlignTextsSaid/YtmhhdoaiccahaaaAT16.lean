/- Part 16. Conditions: as each theorem says. -/
import Derived.Test.YtmhhdoaiccahaaaAT15
import Derived.Test.YtmhhdoaiccahaaaProg
set_option maxRecDepth 100000
namespace Go.Proofs.Ytmhhdoaiccahaaa
open Go.RowKit
theorem RX{s:Nat->Nat->Bool}{m n:Nat}(h:∀ n',n=n'+1->s m n'=false):1<=ed s (m+1) n:=by
 cases n with
 | zero=>rw[CH];omega
 | succ n=>rw[DP (h n rfl)];omega
theorem DA(l:List Int)(hl:l.length<=3000000):Sm (B2 l):=fun p hp=>by
 have:=CN hp
 omega
theorem HX{l:List Int}{x:Nat}{p:Int}(h:l[x]?=some p):(l.drop x)[(0:Int).toNat]?=some p:=by
 show(l.drop x)[0]?=some p
 rw[List.getElem?_drop]
 exact h
theorem LQ(l:List Int)(x:Nat):(l.drop x).drop (1:Int).toNat=l.drop (x+1):=by
 show(l.drop x).drop 1=_
 rw[List.drop_drop]
abbrev dA2(a b:List Int)(x y:Nat):Nat:=ed (sm a b) (a.length-x) (b.length-y)
theorem ME{a b:List Int}{x y:Nat}{p:Int}(hp:a[x]?=some p)(hq:b[y]?=some p):dA2 a b (x+1) (y+1)=dA2 a b x y:=by
 have:=QQ hp hq
 rw[if_pos rfl]at this
 exact this.symm
theorem M6{a b:List Int}{x y:Nat}(hx:x<a.length)(hne:∀ p q,a[x]?=some p->b[y]?=some q->p≠q)(h:wth (sm a b) (dA2 a b x y-1) (a.length-x-1) (b.length-y)=true):sA a b x y=2::sA a b (x+1) y/\dA2 a b (x+1) y=dA2 a b x y-1/\1<=dA2 a b x y:=by
 have hs:∀ n',b.length-y=n'+1->sm a b (a.length-1-x) n'=false:=fun n' e=>by
  obtain⟨p,hp⟩:∃ p,a[x]?=some p:=⟨_,List.getElem?_eq_getElem hx⟩
  obtain⟨q,hq⟩:∃ q,b[y]?=some q:=⟨_,List.getElem?_eq_getElem (by omega)⟩
  have:=G9 hp hq
  rw[show n'=b.length-1-y by omega,this]
  exact decide_eq_false (hne p q hp hq)
 have:=PP (m:=a.length-1-x) (n:=b.length-y) hs
 rw[show a.length-1-x+1=a.length-x by omega,show a.length-1-x=a.length-x-1 by omega]at this
 unfold sA
 rw[show a.length-(x+1)=a.length-x-1 by omega]
 exact this h
theorem OZ{a b:List Int}{x y:Nat}(hx:x<a.length)(hne:∀ p q,a[x]?=some p->b[y]?=some q->p≠q):1<=dA2 a b x y:=by
 have:=RX (s:=sm a b) (m:=a.length-1-x) (n:=b.length-y) fun n' e=>by
  obtain⟨p,hp⟩:∃ p,a[x]?=some p:=⟨_,List.getElem?_eq_getElem hx⟩
  obtain⟨q,hq⟩:∃ q,b[y]?=some q:=⟨_,List.getElem?_eq_getElem (by omega)⟩
  have:=G9 hp hq
  rw[show n'=b.length-1-y by omega,this]
  exact decide_eq_false (hne p q hp hq)
 rwa [show a.length-1-x+1=a.length-x by omega]at this
theorem NH{a b:List Int}{x y:Nat}(hm:x<a.length\/y<b.length)(hne:∀ p q,a[x]?=some p->b[y]?=some q->p≠q)(h:x<a.length->wth (sm a b) (dA2 a b x y-1) (a.length-x-1) (b.length-y)=false):y<b.length/\sA a b x y=3::sA a b x (y+1)/\dA2 a b x (y+1)=dA2 a b x y-1/\1<=dA2 a b x y:=by
 obtain⟨n',e1,e2,e3,e4⟩:=RY (s:=sm a b) (m:=a.length-x) (n:=b.length-y) (by omega) (fun m' n' em en=>by
  obtain⟨p,hp⟩:∃ p,a[x]?=some p:=⟨_,List.getElem?_eq_getElem (by omega)⟩
  obtain⟨q,hq⟩:∃ q,b[y]?=some q:=⟨_,List.getElem?_eq_getElem (by omega)⟩
  have:=G9 hp hq
  rw[show m'=a.length-1-x by omega,show n'=b.length-1-y by omega,this]
  exact decide_eq_false (hne p q hp hq)) (fun m' em=>by
  have:=h (by omega)
  rwa [show a.length-x-1=m' by omega]at this)
 unfold sA dA2
 rw[show b.length-(y+1)=n' by omega]
 exact⟨by omega,e2,e3,e4⟩
abbrev nT(a b:List Int)(x y:Nat):TL:=[(0,.part (.one (ER (CK a b (edL a b+1))))),(1,.part (.one (zsD (a.drop x)))),(2,.part (.one (zsD (b.drop y)))),(7,.own 1000),(8,zI (dA2 a b x y:Int))]
set_option maxHeartbeats 4000000 in
theorem PW(a b:List Int)(ha:a.length<=1000000)(hb:b.length<=1000000)(hn:edL a b<=400):EF Try.prog [] 23 [.one (ER (CK a b (edL a b+1))),.one (zsD a),.one (zsD b)] (.part (.one (DR (B2 (stL a b))))):=by
 have hfl:=DU a b (edL a b+1)
 have hlen:=(IY a b).2.2.1
 have hdi:=PO (CK a b (edL a b+1)) (by omega)
 rw[hfl,show(((edL a b+1:Nat)):Int)-1=(edL a b:Int) by omega]at hdi
 refine AU 71 Try.func23 rfl rfl rfl fun w D=>?_
 try refine A1 ?_
 refine A0 (A7 rfl rfl rfl rfl rfl .nil) ?_
 try refine A1 ?_
 refine A0 (A7 rfl rfl rfl rfl rfl .nil) ?_
 try refine A1 ?_
 refine BW 7 1000 52 2 rfl rfl rfl ?_
 refine A0 (A5 rfl rfl rfl rfl rfl (A3 rfl rfl rfl (B6 rfl (by kernel_rfl) (hdi) ⟨(kn rfl),trivial⟩) (A7 rfl rfl rfl rfl rfl .nil))) ?_
 try refine A1 ?_
 refine B7 (ι:={ t:List Int×Nat×Nat // t.2.1<=a.length/\t.2.2<=b.length/\stL a b=t.1++sA a b t.2.1 t.2.2/\dA2 a b t.2.1 t.2.2<=edL a b })
  (fun t=>nT a b t.1.2.1 t.1.2.2)
  (fun _=>[]) (fun t=>[(1000,rnW (B2 t.1.1))]) (fun t=>(a.length-t.1.2.1)+(b.length-t.1.2.2)) ⟨([],0,0),by dsimp only;omega,by dsimp only;omega,rfl,Nat.le_refl _⟩
  (fun K=>AE ⟨s_t,s_t,s_t,s_t,s_t,trivial⟩ trivial ⟨rfl,trivial⟩) ?_
 rintro⟨⟨out,x,y⟩,hx,hy,hs,hd⟩
 dsimp only at hx hy hs hd ⊢
 have hout:out.length<=2000000:=by
  have:=congrArg List.length hs
  rw[List.length_append]at this
  omega
 have hrl:=E5 out
 have hrs:=DA out (by omega)
 obtain⟨p,hp⟩:=G6 a x
 obtain⟨q,hq⟩:=G6 b y
 have hla:(a.drop x).length=a.length-x:=List.length_drop
 have hlb:(b.drop y).length=b.length-y:=List.length_drop
 have pa:decide ((0:Int)<((a.drop x).length:Int))=true->x<a.length:=fun h=>by have:=of_decide_eq_true h;omega
 have pb:decide ((0:Int)<((b.drop y).length:Int))=true->y<b.length:=fun h=>by have:=of_decide_eq_true h;omega
 try refine A1 ?_
 refine A0 (A5 rfl rfl rfl rfl rfl (A3 rfl rfl rfl (AO rfl (kn rfl) sle_41) (A3 rfl rfl rfl (A4 rfl (kn rfl) (kn rfl) E4) (A5 rfl rfl rfl rfl rfl (Walk.gd _ rfl rfl rfl (fun h=>A6 rfl (kn rfl)) (Walk.gd _ rfl rfl rfl (fun h=>AO rfl (A2 rfl h) sle_41) (Walk.gd _ rfl rfl rfl (fun h=>A4 rfl (A2 rfl h) (kn rfl) E4) (A3 rfl rfl rfl (IK rfl (kn rfl) (fun hb=>A2 rfl hb)) .nil)))))))) ?_
 try refine A1 ?_
 refine AC rfl (fun h=>?_) (fun h=>?_)
 ·have hm:x<a.length\/y<b.length:=by
   rw[Bool.or_eq_true]at h
   rcases h with h | h
   ·exact .inl (pa h)
   ·exact .inr (pb h)
  try refine A1 ?_
  refine C2 BP (by kernel_rfl) (A5 rfl rfl rfl rfl rfl (A3 rfl rfl rfl (AO rfl (kn rfl) sle_41) (A3 rfl rfl rfl (A4 rfl (kn rfl) (kn rfl) E4) (A5 rfl rfl rfl rfl rfl (Walk.gd _ rfl rfl rfl (fun h=>A6 rfl (kn rfl)) (Walk.gd _ rfl rfl rfl (fun h=>AO rfl (A2 rfl h) sle_41) (Walk.gd _ rfl rfl rfl (fun h=>A4 rfl (A2 rfl h) (kn rfl) E4) (A3 rfl rfl rfl (BH rfl (kn rfl) (fun hb=>A2 rfl hb)) (A5 rfl rfl rfl rfl rfl (Walk.gd _ rfl rfl rfl (fun h=>A6 rfl (kn rfl)) (Walk.gd _ rfl rfl rfl (fun h=>AH rfl (A2 rfl h) (kn rfl) (by omega) (HX (hp (pa (gl h)))) AS sle_41 esz_41 rfl) (Walk.gd _ rfl rfl rfl (fun h=>A8 rfl (A2 rfl h) one_3) (Walk.gd _ rfl rfl rfl (fun h=>A6 rfl (kn rfl)) (Walk.gd _ rfl rfl rfl (fun h=>AH rfl (A2 rfl h) (kn rfl) (by omega) (HX (hq (pb (gr h)))) AS sle_41 esz_41 rfl) (Walk.gd _ rfl rfl rfl (fun h=>A8 rfl (A2 rfl h) one_3) (Walk.gd _ rfl rfl rfl (fun h=>A4 rfl (A2 rfl h) (A2 rfl h) B4) (A3 rfl rfl rfl (BH rfl (kn rfl) (fun hb=>A2 rfl hb)) (A7 rfl rfl rfl rfl rfl .nil)))))))))))))))))) ?_
  try refine A1 ?_
  refine AC rfl (fun h1=>?_) (fun h1=>?_)
  ·have hxa:=pa (gl (gl h1))
   have hyb:=pb (gr (gl h1))
   obtain rfl:=of_decide_eq_true (gr h1)
   have hk:=LD (hp hxa) (hq hyb)
   have hdk:=ME (hp hxa) (hq hyb)
   have had:=CT (B2 out) 1 1 (by omega) hrs (by omega)
   rw[<- C8]at had
   have h1a:(1:Int)<=((a.drop x).length:Int):=by omega
   have h1b:(1:Int)<=((b.drop y).length:Int):=by omega
   try refine A1 ?_
   refine AE (T':=nT a b x y) (B':=[]) (R':=[(1000,rnW (B2 out))]) ⟨s_t,s_t,s_t,s_t,s_t,trivial⟩ trivial ⟨rfl,trivial⟩ ?_
   refine EA 9 [[],[0],[],[2],[],[4],[1,1,0,1],[3,6,0,1,2,3,6],[5,7,0,1,2,3,4,5,6,7]] [[false,false,false,false,false,false,false,false,false],[true,false,false,false,false,false,false,false,false],[false,false,true,false,false,false,false,false,false],[false,false,false,false,true,false,false,false,false],[true,true,false,false,false,false,false,false,false],[true,false,true,false,false,false,false,false,false],[true,false,false,false,true,false,false,false,false],[false,false,true,true,false,false,false,false,false],[false,false,true,false,true,false,false,false,false],[false,false,false,false,true,true,false,false,false],[true,true,true,false,false,false,false,false,false],[true,true,false,false,true,false,false,false,false],[true,true,false,false,false,false,true,false,false],[true,false,true,true,false,false,false,false,false],[true,false,true,false,true,false,false,false,false],[true,false,false,false,true,true,false,false,false],[false,false,true,true,true,false,false,false,false],[false,false,true,false,true,true,false,false,false],[true,true,true,true,false,false,false,false,false],[true,true,true,false,true,false,false,false,false],[true,true,true,false,false,false,true,false,false],[true,true,false,false,true,true,false,false,false],[true,true,false,false,true,false,true,false,false],[true,false,true,true,true,false,false,false,false],[true,false,true,false,true,true,false,false,false],[false,false,true,true,true,true,false,false,false],[true,true,true,true,true,false,false,false,false],[true,true,true,true,false,false,true,false,false],[true,true,true,false,true,true,false,false,false],[true,true,true,false,true,false,true,false,false],[true,true,false,false,true,true,true,false,false],[true,false,true,true,true,true,false,false,false],[true,true,true,true,true,true,false,false,false],[true,true,true,true,true,false,true,false,false],[true,true,true,true,false,false,true,true,false],[true,true,true,false,true,true,true,false,false],[true,true,true,true,true,true,true,false,false],[true,true,true,true,true,false,true,true,false],[true,true,true,true,true,true,true,true,false],[true,true,true,true,true,true,true,true,true]] [([false,false,false,false,false,false,false,false,false],0),([false,false,false,false,false,false,false,false,false],2),([false,false,false,false,false,false,false,false,false],4),([true,false,false,false,false,false,false,false,false],1),([true,false,false,false,false,false,false,false,false],2),([true,false,false,false,false,false,false,false,false],4),([false,false,true,false,false,false,false,false,false],0),([false,false,true,false,false,false,false,false,false],3),([false,false,true,false,false,false,false,false,false],4),([false,false,false,false,true,false,false,false,false],0),([false,false,false,false,true,false,false,false,false],2),([false,false,false,false,true,false,false,false,false],5),([true,true,false,false,false,false,false,false,false],2),([true,true,false,false,false,false,false,false,false],4),([true,true,false,false,false,false,false,false,false],6),([true,false,true,false,false,false,false,false,false],1),([true,false,true,false,false,false,false,false,false],3),([true,false,true,false,false,false,false,false,false],4),([true,false,false,false,true,false,false,false,false],1),([true,false,false,false,true,false,false,false,false],2),([true,false,false,false,true,false,false,false,false],5),([false,false,true,true,false,false,false,false,false],0),([false,false,true,true,false,false,false,false,false],4),([false,false,true,false,true,false,false,false,false],0),([false,false,true,false,true,false,false,false,false],3),([false,false,true,false,true,false,false,false,false],5),([false,false,false,false,true,true,false,false,false],0),([false,false,false,false,true,true,false,false,false],2),([true,true,true,false,false,false,false,false,false],3),([true,true,true,false,false,false,false,false,false],4),([true,true,true,false,false,false,false,false,false],6),([true,true,false,false,true,false,false,false,false],2),([true,true,false,false,true,false,false,false,false],5),([true,true,false,false,true,false,false,false,false],6),([true,true,false,false,false,false,true,false,false],2),([true,true,false,false,false,false,true,false,false],4),([true,false,true,true,false,false,false,false,false],1),([true,false,true,true,false,false,false,false,false],4),([true,false,true,false,true,false,false,false,false],1),([true,false,true,false,true,false,false,false,false],3),([true,false,true,false,true,false,false,false,false],5),([true,false,false,false,true,true,false,false,false],1),([true,false,false,false,true,true,false,false,false],2),([false,false,true,true,true,false,false,false,false],0),([false,false,true,true,true,false,false,false,false],5),([false,false,true,false,true,true,false,false,false],0),([false,false,true,false,true,true,false,false,false],3),([true,true,true,true,false,false,false,false,false],4),([true,true,true,true,false,false,false,false,false],6),([true,true,true,false,true,false,false,false,false],3),([true,true,true,false,true,false,false,false,false],5),([true,true,true,false,true,false,false,false,false],6),([true,true,true,false,false,false,true,false,false],3),([true,true,true,false,false,false,true,false,false],4),([true,true,false,false,true,true,false,false,false],2),([true,true,false,false,true,true,false,false,false],6),([true,true,false,false,true,false,true,false,false],2),([true,true,false,false,true,false,true,false,false],5),([true,false,true,true,true,false,false,false,false],1),([true,false,true,true,true,false,false,false,false],5),([true,false,true,false,true,true,false,false,false],1),([true,false,true,false,true,true,false,false,false],3),([false,false,true,true,true,true,false,false,false],0),([true,true,true,true,true,false,false,false,false],5),([true,true,true,true,true,false,false,false,false],6),([true,true,true,true,false,false,true,false,false],4),([true,true,true,true,false,false,true,false,false],7),([true,true,true,false,true,true,false,false,false],3),([true,true,true,false,true,true,false,false,false],6),([true,true,true,false,true,false,true,false,false],3),([true,true,true,false,true,false,true,false,false],5),([true,true,false,false,true,true,true,false,false],2),([true,false,true,true,true,true,false,false,false],1),([true,true,true,true,true,true,false,false,false],6),([true,true,true,true,true,false,true,false,false],5),([true,true,true,true,true,false,true,false,false],7),([true,true,true,true,false,false,true,true,false],4),([true,true,true,false,true,true,true,false,false],3),([true,true,true,true,true,true,true,false,false],7),([true,true,true,true,true,false,true,true,false],5),([true,true,true,true,true,true,true,true,false],8)] [(8,2,.part (.one (zsD ((b.drop y).drop (1:Int).toNat)))),(7,1,.part (.one (zsD ((a.drop x).drop (1:Int).toNat)))),(6,7,.own 1000),(1,7,.junk),(1,43,.junk),(0,43,.own 1000),(1,44,.own 1000),(2,45,.part (.one (zsD (a.drop x)))),(3,46,.part (.one (zsD ((a.drop x).drop (1:Int).toNat)))),(4,47,.part (.one (zsD (b.drop y)))),(5,48,.part (.one (zsD ((b.drop y).drop (1:Int).toNat))))] [] [(1,1000,rnW (B2 (out++[1])))] [(0,.part (.one (ER (CK a b (edL a b+1))))),(1,.part (.one (zsD (a.drop x)))),(2,.part (.one (zsD (b.drop y)))),(7,.own 1000),(8,zI (dA2 a b x y:Int))] [] [(1000,rnW (B2 out))] (by kernel_rfl) rfl BP (by kernel_rfl) (by decide) (fun K h=>h) ?_ ?_
   ·repeat' first
     | exact trivial
     | refine And.intro ?_ ?_
    all_goals
     intro K hK
     replace hK:=L3 (JZ (O8 hK))
     first
      | (refine B3 (i:=0) rfl (fun h=>h) ?_;refine AI ?_;refine AA ?_;refine A1 ?_;exact AR hK (by repeat' first | exact trivial | refine And.intro s_t ?_) (by repeat' first | exact trivial | refine And.intro s_b ?_) (by repeat' first | exact trivial | refine And.intro rfl ?_))
      | (refine B3 (i:=1) rfl (fun h=>h) ?_;refine BN rfl rfl rfl rfl (by kernel_rfl) (had) trivial ⟨rfl,trivial⟩ ⟨(kn rfl),⟨(kn rfl),⟨(kn rfl),trivial⟩⟩⟩ (YA.tidy) ?_;rintro _ _ _ ⟨rfl,rfl,rfl⟩;refine AA ?_;refine A1 ?_;exact AR hK (by repeat' first | exact trivial | refine And.intro s_t ?_) (by repeat' first | exact trivial | refine And.intro s_b ?_) (by repeat' first | exact trivial | refine And.intro rfl ?_))
      | (refine B3 (i:=2) rfl (fun h=>h) ?_;refine AI ?_;refine AA ?_;refine A1 ?_;exact AR hK (by repeat' first | exact trivial | refine And.intro s_t ?_) (by repeat' first | exact trivial | refine And.intro s_b ?_) (by repeat' first | exact trivial | refine And.intro rfl ?_))
      | (refine B3 (i:=3) rfl (fun h=>h) ?_;refine AJ (BM rfl (kn rfl) (kn rfl) (by omega) AS sle_41 esz_41) ?_;refine AA ?_;refine A1 ?_;exact AR hK (by repeat' first | exact trivial | refine And.intro s_t ?_) (by repeat' first | exact trivial | refine And.intro s_b ?_) (by repeat' first | exact trivial | refine And.intro rfl ?_))
      | (refine B3 (i:=4) rfl (fun h=>h) ?_;refine AI ?_;refine AA ?_;refine A1 ?_;exact AR hK (by repeat' first | exact trivial | refine And.intro s_t ?_) (by repeat' first | exact trivial | refine And.intro s_b ?_) (by repeat' first | exact trivial | refine And.intro rfl ?_))
      | (refine B3 (i:=5) rfl (fun h=>h) ?_;refine AJ (BM rfl (kn rfl) (kn rfl) (by omega) AS sle_41 esz_41) ?_;refine AA ?_;refine A1 ?_;exact AR hK (by repeat' first | exact trivial | refine And.intro s_t ?_) (by repeat' first | exact trivial | refine And.intro s_b ?_) (by repeat' first | exact trivial | refine And.intro rfl ?_))
      | (refine B3 (i:=6) rfl (fun h=>h) ?_;refine B5 ?_;refine AA ?_;refine A1 ?_;exact AR hK (by repeat' first | exact trivial | refine And.intro s_t ?_) (by repeat' first | exact trivial | refine And.intro s_b ?_) (by repeat' first | exact trivial | refine And.intro rfl ?_))
      | (refine B3 (i:=7) rfl (fun h=>h) ?_;refine B5 ?_;refine AA ?_;refine A1 ?_;exact AR hK (by repeat' first | exact trivial | refine And.intro s_t ?_) (by repeat' first | exact trivial | refine And.intro s_b ?_) (by repeat' first | exact trivial | refine And.intro rfl ?_))
      | (refine B3 (i:=8) rfl (fun h=>h) ?_;refine B5 ?_;refine AA ?_;refine A1 ?_;exact AR hK (by repeat' first | exact trivial | refine And.intro s_t ?_) (by repeat' first | exact trivial | refine And.intro s_b ?_) (by repeat' first | exact trivial | refine And.intro rfl ?_))
   rw[LQ,LQ]
   try refine A1 ?_
   refine AF ⟨(out++[1],x+1,y+1),by dsimp only;omega,by dsimp only;omega,by dsimp only;rw[hs,hk,List.append_assoc];rfl,by dsimp only;rw[hdk];exact hd⟩ (by dsimp only;omega) (fun K=>AE ⟨s_t,s_t,s_t,s_t,s_z rfl (by dsimp only;rw[hdk]),trivial⟩ trivial ⟨rfl,trivial⟩)
  have hne:∀ p' q',a[x]?=some p'->b[y]?=some q'->p'≠q':=fun p' q' h2 h3 e=>by
   have hxa:x<a.length:=(List.getElem?_eq_some_iff.1 h2).1
   have hyb:y<b.length:=(List.getElem?_eq_some_iff.1 h3).1
   have e1:=(hp hxa).symm.trans h2
   have e2:=(hq hyb).symm.trans h3
   injection e1 with e1
   injection e2 with e2
   rw[decide_eq_true (show(0:Int)<((a.drop x).length:Int) by omega),decide_eq_true (show(0:Int)<((b.drop y).length:Int) by omega),decide_eq_true (e1.trans (e.trans e2.symm))]at h1
   cases h1
  have hwi:=FT a b (edL a b+1) (dA2 a b x y-1) (a.length-x-1) (b.length-y) (by omega) (by omega) (by omega) (by omega)
  have hL:decide ((0:Int)<((a.drop x).length:Int))=true->(dA2 a b x y:Int)-1=((dA2 a b x y-1:Nat):Int):=fun h=>by
   have:=OZ (pa h) hne
   omega
  have hM:decide ((0:Int)<((a.drop x).length:Int))=true->((a.drop x).length:Int)-1=((a.length-x-1:Nat):Int):=fun h=>by
   have:=pa h
   omega
  try refine A1 ?_
  refine A0 (A5 rfl rfl rfl rfl rfl (A3 rfl rfl rfl (AO rfl (kn rfl) sle_41) (A3 rfl rfl rfl (A4 rfl (kn rfl) (kn rfl) E4) (A5 rfl rfl rfl rfl rfl (Walk.gd _ rfl rfl rfl (fun h=>A6 rfl (kn rfl)) (Walk.gd _ rfl rfl rfl (fun h=>A6 rfl (kn rfl)) (Walk.gd _ rfl rfl rfl (fun h=>A4 rfl (A2 rfl h) (kn rfl) (AN (by first | omega | (dsimp only;omega)))) (Walk.gd _ rfl rfl rfl (fun h=>A6 rfl (kn rfl)) (Walk.gd _ rfl rfl rfl (fun h=>AO rfl (A2 rfl h) sle_41) (Walk.gd _ rfl rfl rfl (fun h=>A4 rfl (A2 rfl h) (kn rfl) (AN (by first | omega | (dsimp only;omega)))) (Walk.gd _ rfl rfl rfl (fun h=>A6 rfl (kn rfl)) (Walk.gd _ rfl rfl rfl (fun h=>AO rfl (A2 rfl h) sle_41) (Walk.gd _ rfl rfl rfl (fun h=>B6 rfl (by kernel_rfl) hwi ⟨A2 rfl h,FV (A2 rfl h) (JK (hL h)),FV (A2 rfl h) (JK (hM h)),FV (A2 rfl h) (JK (congrArg Nat.cast hlb)),trivial⟩) (A3 rfl rfl rfl (BH rfl (kn rfl) (fun hb=>A2 rfl hb)) (A7 rfl rfl rfl rfl rfl .nil))))))))))))))) ?_
  try refine A1 ?_
  have hbd:dA2 a b x y<=400:=by omega
  refine AC rfl (fun h2=>?_) (fun h2=>?_)
  ·have hxa:=pa (gl h2)
   obtain⟨hk,hdk,hpo⟩:=M6 hxa hne (gr h2)
   have had:=CT (B2 out) 2 1 (by omega) hrs (by omega)
   rw[<- C8]at had
   have h1a:(1:Int)<=((a.drop x).length:Int):=by omega
   try refine A1 ?_
   refine AE (T':=nT a b x y) (B':=[]) (R':=[(1000,rnW (B2 out))]) ⟨s_t,s_t,s_t,s_t,s_t,trivial⟩ trivial ⟨rfl,trivial⟩ ?_
   refine EA 9 [[],[0],[],[2],[],[4],[1,1,0,1],[3,6,0,1,2,3,6],[5,7,0,1,2,3,4,5,6,7]] [[false,false,false,false,false,false,false,false,false],[true,false,false,false,false,false,false,false,false],[false,false,true,false,false,false,false,false,false],[false,false,false,false,true,false,false,false,false],[true,true,false,false,false,false,false,false,false],[true,false,true,false,false,false,false,false,false],[true,false,false,false,true,false,false,false,false],[false,false,true,true,false,false,false,false,false],[false,false,true,false,true,false,false,false,false],[false,false,false,false,true,true,false,false,false],[true,true,true,false,false,false,false,false,false],[true,true,false,false,true,false,false,false,false],[true,true,false,false,false,false,true,false,false],[true,false,true,true,false,false,false,false,false],[true,false,true,false,true,false,false,false,false],[true,false,false,false,true,true,false,false,false],[false,false,true,true,true,false,false,false,false],[false,false,true,false,true,true,false,false,false],[true,true,true,true,false,false,false,false,false],[true,true,true,false,true,false,false,false,false],[true,true,true,false,false,false,true,false,false],[true,true,false,false,true,true,false,false,false],[true,true,false,false,true,false,true,false,false],[true,false,true,true,true,false,false,false,false],[true,false,true,false,true,true,false,false,false],[false,false,true,true,true,true,false,false,false],[true,true,true,true,true,false,false,false,false],[true,true,true,true,false,false,true,false,false],[true,true,true,false,true,true,false,false,false],[true,true,true,false,true,false,true,false,false],[true,true,false,false,true,true,true,false,false],[true,false,true,true,true,true,false,false,false],[true,true,true,true,true,true,false,false,false],[true,true,true,true,true,false,true,false,false],[true,true,true,true,false,false,true,true,false],[true,true,true,false,true,true,true,false,false],[true,true,true,true,true,true,true,false,false],[true,true,true,true,true,false,true,true,false],[true,true,true,true,true,true,true,true,false],[true,true,true,true,true,true,true,true,true]] [([false,false,false,false,false,false,false,false,false],0),([false,false,false,false,false,false,false,false,false],2),([false,false,false,false,false,false,false,false,false],4),([true,false,false,false,false,false,false,false,false],1),([true,false,false,false,false,false,false,false,false],2),([true,false,false,false,false,false,false,false,false],4),([false,false,true,false,false,false,false,false,false],0),([false,false,true,false,false,false,false,false,false],3),([false,false,true,false,false,false,false,false,false],4),([false,false,false,false,true,false,false,false,false],0),([false,false,false,false,true,false,false,false,false],2),([false,false,false,false,true,false,false,false,false],5),([true,true,false,false,false,false,false,false,false],2),([true,true,false,false,false,false,false,false,false],4),([true,true,false,false,false,false,false,false,false],6),([true,false,true,false,false,false,false,false,false],1),([true,false,true,false,false,false,false,false,false],3),([true,false,true,false,false,false,false,false,false],4),([true,false,false,false,true,false,false,false,false],1),([true,false,false,false,true,false,false,false,false],2),([true,false,false,false,true,false,false,false,false],5),([false,false,true,true,false,false,false,false,false],0),([false,false,true,true,false,false,false,false,false],4),([false,false,true,false,true,false,false,false,false],0),([false,false,true,false,true,false,false,false,false],3),([false,false,true,false,true,false,false,false,false],5),([false,false,false,false,true,true,false,false,false],0),([false,false,false,false,true,true,false,false,false],2),([true,true,true,false,false,false,false,false,false],3),([true,true,true,false,false,false,false,false,false],4),([true,true,true,false,false,false,false,false,false],6),([true,true,false,false,true,false,false,false,false],2),([true,true,false,false,true,false,false,false,false],5),([true,true,false,false,true,false,false,false,false],6),([true,true,false,false,false,false,true,false,false],2),([true,true,false,false,false,false,true,false,false],4),([true,false,true,true,false,false,false,false,false],1),([true,false,true,true,false,false,false,false,false],4),([true,false,true,false,true,false,false,false,false],1),([true,false,true,false,true,false,false,false,false],3),([true,false,true,false,true,false,false,false,false],5),([true,false,false,false,true,true,false,false,false],1),([true,false,false,false,true,true,false,false,false],2),([false,false,true,true,true,false,false,false,false],0),([false,false,true,true,true,false,false,false,false],5),([false,false,true,false,true,true,false,false,false],0),([false,false,true,false,true,true,false,false,false],3),([true,true,true,true,false,false,false,false,false],4),([true,true,true,true,false,false,false,false,false],6),([true,true,true,false,true,false,false,false,false],3),([true,true,true,false,true,false,false,false,false],5),([true,true,true,false,true,false,false,false,false],6),([true,true,true,false,false,false,true,false,false],3),([true,true,true,false,false,false,true,false,false],4),([true,true,false,false,true,true,false,false,false],2),([true,true,false,false,true,true,false,false,false],6),([true,true,false,false,true,false,true,false,false],2),([true,true,false,false,true,false,true,false,false],5),([true,false,true,true,true,false,false,false,false],1),([true,false,true,true,true,false,false,false,false],5),([true,false,true,false,true,true,false,false,false],1),([true,false,true,false,true,true,false,false,false],3),([false,false,true,true,true,true,false,false,false],0),([true,true,true,true,true,false,false,false,false],5),([true,true,true,true,true,false,false,false,false],6),([true,true,true,true,false,false,true,false,false],4),([true,true,true,true,false,false,true,false,false],7),([true,true,true,false,true,true,false,false,false],3),([true,true,true,false,true,true,false,false,false],6),([true,true,true,false,true,false,true,false,false],3),([true,true,true,false,true,false,true,false,false],5),([true,true,false,false,true,true,true,false,false],2),([true,false,true,true,true,true,false,false,false],1),([true,true,true,true,true,true,false,false,false],6),([true,true,true,true,true,false,true,false,false],5),([true,true,true,true,true,false,true,false,false],7),([true,true,true,true,false,false,true,true,false],4),([true,true,true,false,true,true,true,false,false],3),([true,true,true,true,true,true,true,false,false],7),([true,true,true,true,true,false,true,true,false],5),([true,true,true,true,true,true,true,true,false],8)] [(8,8,zI ((dA2 a b x y:Int)-1)),(7,1,.part (.one (zsD ((a.drop x).drop (1:Int).toNat)))),(6,7,.own 1000),(1,7,.junk),(1,64,.junk),(0,64,.own 1000),(1,65,.own 1000),(2,66,.part (.one (zsD (a.drop x)))),(3,67,.part (.one (zsD ((a.drop x).drop (1:Int).toNat)))),(4,68,zI (dA2 a b x y:Int)),(5,69,zI ((dA2 a b x y:Int)-1))] [] [(1,1000,rnW (B2 (out++[2])))] [(0,.part (.one (ER (CK a b (edL a b+1))))),(1,.part (.one (zsD (a.drop x)))),(2,.part (.one (zsD (b.drop y)))),(7,.own 1000),(8,zI (dA2 a b x y:Int))] [] [(1000,rnW (B2 out))] (by kernel_rfl) rfl BP (by kernel_rfl) (by decide) (fun K h=>h) ?_ ?_
   ·repeat' first
     | exact trivial
     | refine And.intro ?_ ?_
    all_goals
     intro K hK
     replace hK:=L3 (JZ (O8 hK))
     first
      | (refine B3 (i:=0) rfl (fun h=>h) ?_;refine AI ?_;refine AA ?_;refine A1 ?_;exact AR hK (by repeat' first | exact trivial | refine And.intro s_t ?_) (by repeat' first | exact trivial | refine And.intro s_b ?_) (by repeat' first | exact trivial | refine And.intro rfl ?_))
      | (refine B3 (i:=1) rfl (fun h=>h) ?_;refine BN rfl rfl rfl rfl (by kernel_rfl) (had) trivial ⟨rfl,trivial⟩ ⟨(kn rfl),⟨(kn rfl),⟨(kn rfl),trivial⟩⟩⟩ (YA.tidy) ?_;rintro _ _ _ ⟨rfl,rfl,rfl⟩;refine AA ?_;refine A1 ?_;exact AR hK (by repeat' first | exact trivial | refine And.intro s_t ?_) (by repeat' first | exact trivial | refine And.intro s_b ?_) (by repeat' first | exact trivial | refine And.intro rfl ?_))
      | (refine B3 (i:=2) rfl (fun h=>h) ?_;refine AI ?_;refine AA ?_;refine A1 ?_;exact AR hK (by repeat' first | exact trivial | refine And.intro s_t ?_) (by repeat' first | exact trivial | refine And.intro s_b ?_) (by repeat' first | exact trivial | refine And.intro rfl ?_))
      | (refine B3 (i:=3) rfl (fun h=>h) ?_;refine AJ (BM rfl (kn rfl) (kn rfl) (by omega) AS sle_41 esz_41) ?_;refine AA ?_;refine A1 ?_;exact AR hK (by repeat' first | exact trivial | refine And.intro s_t ?_) (by repeat' first | exact trivial | refine And.intro s_b ?_) (by repeat' first | exact trivial | refine And.intro rfl ?_))
      | (refine B3 (i:=4) rfl (fun h=>h) ?_;refine AI ?_;refine AA ?_;refine A1 ?_;exact AR hK (by repeat' first | exact trivial | refine And.intro s_t ?_) (by repeat' first | exact trivial | refine And.intro s_b ?_) (by repeat' first | exact trivial | refine And.intro rfl ?_))
      | (refine B3 (i:=5) rfl (fun h=>h) ?_;refine AJ (A4 rfl (kn rfl) (kn rfl) (AN (by first | omega | (dsimp only;omega)))) ?_;refine AA ?_;refine A1 ?_;exact AR hK (by repeat' first | exact trivial | refine And.intro s_t ?_) (by repeat' first | exact trivial | refine And.intro s_b ?_) (by repeat' first | exact trivial | refine And.intro rfl ?_))
      | (refine B3 (i:=6) rfl (fun h=>h) ?_;refine B5 ?_;refine AA ?_;refine A1 ?_;exact AR hK (by repeat' first | exact trivial | refine And.intro s_t ?_) (by repeat' first | exact trivial | refine And.intro s_b ?_) (by repeat' first | exact trivial | refine And.intro rfl ?_))
      | (refine B3 (i:=7) rfl (fun h=>h) ?_;refine B5 ?_;refine AA ?_;refine A1 ?_;exact AR hK (by repeat' first | exact trivial | refine And.intro s_t ?_) (by repeat' first | exact trivial | refine And.intro s_b ?_) (by repeat' first | exact trivial | refine And.intro rfl ?_))
      | (refine B3 (i:=8) rfl (fun h=>h) ?_;refine B5 ?_;refine AA ?_;refine A1 ?_;exact AR hK (by repeat' first | exact trivial | refine And.intro s_t ?_) (by repeat' first | exact trivial | refine And.intro s_b ?_) (by repeat' first | exact trivial | refine And.intro rfl ?_))
   rw[LQ]
   try refine A1 ?_
   refine AF ⟨(out++[2],x+1,y),by dsimp only;omega,hy,by dsimp only;rw[hs,hk,List.append_assoc];rfl,by dsimp only;omega⟩ (by dsimp only;omega) (fun K=>AE ⟨s_t,s_t,s_t,s_t,s_z rfl (by dsimp only;omega),trivial⟩ trivial ⟨rfl,trivial⟩)
  have hw:x<a.length->wth (sm a b) (dA2 a b x y-1) (a.length-x-1) (b.length-y)=false:=fun h=>by
   rw[decide_eq_true (show(0:Int)<((a.drop x).length:Int) by omega),Bool.true_and]at h2
   exact h2
  obtain⟨hyb,hk,hdk,hpo⟩:=NH hm hne hw
  have had:=CT (B2 out) 3 1 (by omega) hrs (by omega)
  rw[<- C8]at had
  have h1b:(1:Int)<=((b.drop y).length:Int):=by omega
  try refine A1 ?_
  refine AE (T':=nT a b x y) (B':=[]) (R':=[(1000,rnW (B2 out))]) ⟨s_t,s_t,s_t,s_t,s_t,trivial⟩ trivial ⟨rfl,trivial⟩ ?_
  refine EA 9 [[],[0],[],[2],[],[4],[1,1,0,1],[3,6,0,1,2,3,6],[5,7,0,1,2,3,4,5,6,7]] [[false,false,false,false,false,false,false,false,false],[true,false,false,false,false,false,false,false,false],[false,false,true,false,false,false,false,false,false],[false,false,false,false,true,false,false,false,false],[true,true,false,false,false,false,false,false,false],[true,false,true,false,false,false,false,false,false],[true,false,false,false,true,false,false,false,false],[false,false,true,true,false,false,false,false,false],[false,false,true,false,true,false,false,false,false],[false,false,false,false,true,true,false,false,false],[true,true,true,false,false,false,false,false,false],[true,true,false,false,true,false,false,false,false],[true,true,false,false,false,false,true,false,false],[true,false,true,true,false,false,false,false,false],[true,false,true,false,true,false,false,false,false],[true,false,false,false,true,true,false,false,false],[false,false,true,true,true,false,false,false,false],[false,false,true,false,true,true,false,false,false],[true,true,true,true,false,false,false,false,false],[true,true,true,false,true,false,false,false,false],[true,true,true,false,false,false,true,false,false],[true,true,false,false,true,true,false,false,false],[true,true,false,false,true,false,true,false,false],[true,false,true,true,true,false,false,false,false],[true,false,true,false,true,true,false,false,false],[false,false,true,true,true,true,false,false,false],[true,true,true,true,true,false,false,false,false],[true,true,true,true,false,false,true,false,false],[true,true,true,false,true,true,false,false,false],[true,true,true,false,true,false,true,false,false],[true,true,false,false,true,true,true,false,false],[true,false,true,true,true,true,false,false,false],[true,true,true,true,true,true,false,false,false],[true,true,true,true,true,false,true,false,false],[true,true,true,true,false,false,true,true,false],[true,true,true,false,true,true,true,false,false],[true,true,true,true,true,true,true,false,false],[true,true,true,true,true,false,true,true,false],[true,true,true,true,true,true,true,true,false],[true,true,true,true,true,true,true,true,true]] [([false,false,false,false,false,false,false,false,false],0),([false,false,false,false,false,false,false,false,false],2),([false,false,false,false,false,false,false,false,false],4),([true,false,false,false,false,false,false,false,false],1),([true,false,false,false,false,false,false,false,false],2),([true,false,false,false,false,false,false,false,false],4),([false,false,true,false,false,false,false,false,false],0),([false,false,true,false,false,false,false,false,false],3),([false,false,true,false,false,false,false,false,false],4),([false,false,false,false,true,false,false,false,false],0),([false,false,false,false,true,false,false,false,false],2),([false,false,false,false,true,false,false,false,false],5),([true,true,false,false,false,false,false,false,false],2),([true,true,false,false,false,false,false,false,false],4),([true,true,false,false,false,false,false,false,false],6),([true,false,true,false,false,false,false,false,false],1),([true,false,true,false,false,false,false,false,false],3),([true,false,true,false,false,false,false,false,false],4),([true,false,false,false,true,false,false,false,false],1),([true,false,false,false,true,false,false,false,false],2),([true,false,false,false,true,false,false,false,false],5),([false,false,true,true,false,false,false,false,false],0),([false,false,true,true,false,false,false,false,false],4),([false,false,true,false,true,false,false,false,false],0),([false,false,true,false,true,false,false,false,false],3),([false,false,true,false,true,false,false,false,false],5),([false,false,false,false,true,true,false,false,false],0),([false,false,false,false,true,true,false,false,false],2),([true,true,true,false,false,false,false,false,false],3),([true,true,true,false,false,false,false,false,false],4),([true,true,true,false,false,false,false,false,false],6),([true,true,false,false,true,false,false,false,false],2),([true,true,false,false,true,false,false,false,false],5),([true,true,false,false,true,false,false,false,false],6),([true,true,false,false,false,false,true,false,false],2),([true,true,false,false,false,false,true,false,false],4),([true,false,true,true,false,false,false,false,false],1),([true,false,true,true,false,false,false,false,false],4),([true,false,true,false,true,false,false,false,false],1),([true,false,true,false,true,false,false,false,false],3),([true,false,true,false,true,false,false,false,false],5),([true,false,false,false,true,true,false,false,false],1),([true,false,false,false,true,true,false,false,false],2),([false,false,true,true,true,false,false,false,false],0),([false,false,true,true,true,false,false,false,false],5),([false,false,true,false,true,true,false,false,false],0),([false,false,true,false,true,true,false,false,false],3),([true,true,true,true,false,false,false,false,false],4),([true,true,true,true,false,false,false,false,false],6),([true,true,true,false,true,false,false,false,false],3),([true,true,true,false,true,false,false,false,false],5),([true,true,true,false,true,false,false,false,false],6),([true,true,true,false,false,false,true,false,false],3),([true,true,true,false,false,false,true,false,false],4),([true,true,false,false,true,true,false,false,false],2),([true,true,false,false,true,true,false,false,false],6),([true,true,false,false,true,false,true,false,false],2),([true,true,false,false,true,false,true,false,false],5),([true,false,true,true,true,false,false,false,false],1),([true,false,true,true,true,false,false,false,false],5),([true,false,true,false,true,true,false,false,false],1),([true,false,true,false,true,true,false,false,false],3),([false,false,true,true,true,true,false,false,false],0),([true,true,true,true,true,false,false,false,false],5),([true,true,true,true,true,false,false,false,false],6),([true,true,true,true,false,false,true,false,false],4),([true,true,true,true,false,false,true,false,false],7),([true,true,true,false,true,true,false,false,false],3),([true,true,true,false,true,true,false,false,false],6),([true,true,true,false,true,false,true,false,false],3),([true,true,true,false,true,false,true,false,false],5),([true,true,false,false,true,true,true,false,false],2),([true,false,true,true,true,true,false,false,false],1),([true,true,true,true,true,true,false,false,false],6),([true,true,true,true,true,false,true,false,false],5),([true,true,true,true,true,false,true,false,false],7),([true,true,true,true,false,false,true,true,false],4),([true,true,true,false,true,true,true,false,false],3),([true,true,true,true,true,true,true,false,false],7),([true,true,true,true,true,false,true,true,false],5),([true,true,true,true,true,true,true,true,false],8)] [(8,8,zI ((dA2 a b x y:Int)-1)),(7,2,.part (.one (zsD ((b.drop y).drop (1:Int).toNat)))),(6,7,.own 1000),(1,7,.junk),(1,19,.junk),(0,19,.own 1000),(1,20,.own 1000),(2,21,.part (.one (zsD (b.drop y)))),(3,22,.part (.one (zsD ((b.drop y).drop (1:Int).toNat)))),(4,23,zI (dA2 a b x y:Int)),(5,24,zI ((dA2 a b x y:Int)-1))] [] [(1,1000,rnW (B2 (out++[3])))] [(0,.part (.one (ER (CK a b (edL a b+1))))),(1,.part (.one (zsD (a.drop x)))),(2,.part (.one (zsD (b.drop y)))),(7,.own 1000),(8,zI (dA2 a b x y:Int))] [] [(1000,rnW (B2 out))] (by kernel_rfl) rfl BP (by kernel_rfl) (by decide) (fun K h=>h) ?_ ?_
  ·repeat' first
    | exact trivial
    | refine And.intro ?_ ?_
   all_goals
    intro K hK
    replace hK:=L3 (JZ (O8 hK))
    first
     | (refine B3 (i:=0) rfl (fun h=>h) ?_;refine AI ?_;refine AA ?_;refine A1 ?_;exact AR hK (by repeat' first | exact trivial | refine And.intro s_t ?_) (by repeat' first | exact trivial | refine And.intro s_b ?_) (by repeat' first | exact trivial | refine And.intro rfl ?_))
     | (refine B3 (i:=1) rfl (fun h=>h) ?_;refine BN rfl rfl rfl rfl (by kernel_rfl) (had) trivial ⟨rfl,trivial⟩ ⟨(kn rfl),⟨(kn rfl),⟨(kn rfl),trivial⟩⟩⟩ (YA.tidy) ?_;rintro _ _ _ ⟨rfl,rfl,rfl⟩;refine AA ?_;refine A1 ?_;exact AR hK (by repeat' first | exact trivial | refine And.intro s_t ?_) (by repeat' first | exact trivial | refine And.intro s_b ?_) (by repeat' first | exact trivial | refine And.intro rfl ?_))
     | (refine B3 (i:=2) rfl (fun h=>h) ?_;refine AI ?_;refine AA ?_;refine A1 ?_;exact AR hK (by repeat' first | exact trivial | refine And.intro s_t ?_) (by repeat' first | exact trivial | refine And.intro s_b ?_) (by repeat' first | exact trivial | refine And.intro rfl ?_))
     | (refine B3 (i:=3) rfl (fun h=>h) ?_;refine AJ (BM rfl (kn rfl) (kn rfl) (by omega) AS sle_41 esz_41) ?_;refine AA ?_;refine A1 ?_;exact AR hK (by repeat' first | exact trivial | refine And.intro s_t ?_) (by repeat' first | exact trivial | refine And.intro s_b ?_) (by repeat' first | exact trivial | refine And.intro rfl ?_))
     | (refine B3 (i:=4) rfl (fun h=>h) ?_;refine AI ?_;refine AA ?_;refine A1 ?_;exact AR hK (by repeat' first | exact trivial | refine And.intro s_t ?_) (by repeat' first | exact trivial | refine And.intro s_b ?_) (by repeat' first | exact trivial | refine And.intro rfl ?_))
     | (refine B3 (i:=5) rfl (fun h=>h) ?_;refine AJ (A4 rfl (kn rfl) (kn rfl) (AN (by first | omega | (dsimp only;omega)))) ?_;refine AA ?_;refine A1 ?_;exact AR hK (by repeat' first | exact trivial | refine And.intro s_t ?_) (by repeat' first | exact trivial | refine And.intro s_b ?_) (by repeat' first | exact trivial | refine And.intro rfl ?_))
     | (refine B3 (i:=6) rfl (fun h=>h) ?_;refine B5 ?_;refine AA ?_;refine A1 ?_;exact AR hK (by repeat' first | exact trivial | refine And.intro s_t ?_) (by repeat' first | exact trivial | refine And.intro s_b ?_) (by repeat' first | exact trivial | refine And.intro rfl ?_))
     | (refine B3 (i:=7) rfl (fun h=>h) ?_;refine B5 ?_;refine AA ?_;refine A1 ?_;exact AR hK (by repeat' first | exact trivial | refine And.intro s_t ?_) (by repeat' first | exact trivial | refine And.intro s_b ?_) (by repeat' first | exact trivial | refine And.intro rfl ?_))
     | (refine B3 (i:=8) rfl (fun h=>h) ?_;refine B5 ?_;refine AA ?_;refine A1 ?_;exact AR hK (by repeat' first | exact trivial | refine And.intro s_t ?_) (by repeat' first | exact trivial | refine And.intro s_b ?_) (by repeat' first | exact trivial | refine And.intro rfl ?_))
  rw[LQ]
  try refine A1 ?_
  refine AF ⟨(out++[3],x,y+1),hx,by dsimp only;omega,by dsimp only;rw[hs,hk,List.append_assoc];rfl,by dsimp only;omega⟩ (by dsimp only;omega) (fun K=>AE ⟨s_t,s_t,s_t,s_t,s_z rfl (by dsimp only;omega),trivial⟩ trivial ⟨rfl,trivial⟩)
 rw[Bool.or_eq_false_iff]at h
 have e1:x=a.length:=by have:=of_decide_eq_false h.1;omega
 have e2:y=b.length:=by have:=of_decide_eq_false h.2;omega
 rw[e1,e2,NS,List.append_nil]at hs
 rw[hs]
 try refine A1 ?_
 refine AL 7 1000 rfl rfl rfl ?_
 refine A0 (A5 rfl rfl rfl rfl rfl (A7 rfl rfl rfl rfl rfl .nil)) ?_
 try refine A1 ?_
 exact AM rfl rfl (.tmp (kn rfl) (.nil)) (Imp.refl _) rfl
end Go.Proofs.Ytmhhdoaiccahaaa
