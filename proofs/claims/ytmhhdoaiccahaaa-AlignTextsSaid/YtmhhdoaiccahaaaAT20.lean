/- Part 20. Conditions: as each theorem says. -/
import Derived.Test.YtmhhdoaiccahaaaAT19
import Derived.Test.YtmhhdoaiccahaaaProg
set_option maxRecDepth 100000
namespace Go.Proofs.Ytmhhdoaiccahaaa
open Go.RowKit
abbrev Sp:Type:=Int×Int×Int
def kdS(k:Int):Int:=if k=1 then 1 else if k=2 then 3 else 4
def cX(l:List Int):Nat:=l.countP fun k=>k≠3
def cY(l:List Int):Nat:=l.countP fun k=>k≠2
theorem GH(l:List Int)(k:Int):cX (l++[k])=cX l+if k=3 then 0 else 1:=by
 unfold cX
 rw[List.countP_append]
 congr 1
 by_cases h:k=3<;>simp[h]
theorem GL(l:List Int)(k:Int):cY (l++[k])=cY l+if k=2 then 0 else 1:=by
 unfold cY
 rw[List.countP_append]
 congr 1
 by_cases h:k=2<;>simp[h]
theorem R5(l:List Int):cX l<=l.length:=List.countP_le_length
theorem QO(l:List Int):cY l<=l.length:=List.countP_le_length
def BQ(l:List Int):List Sp:=(List.range l.length).map fun i=>(kdS (l.getD i 0),(cX (l.take i):Int),(cY (l.take i):Int))
theorem CQ(l:List Int):(BQ l).length=l.length:=by simp[BQ]
theorem IB(l:List Int)(k:Int):BQ (l++[k])=BQ l++[(kdS k,(cX l:Int),(cY l:Int))]:=by
 unfold BQ
 rw[List.length_append,List.length_singleton,List.range_succ,List.map_append,List.map_singleton]
 congr 1
 ·refine List.map_congr_left fun i hi=>?_
  have hi:=List.mem_range.1 hi
  rw[List.getD_eq_getElem?_getD,List.getD_eq_getElem?_getD,List.getElem?_append_left hi,List.take_append_of_le_length (by omega)]
 ·rw[List.getD_eq_getElem?_getD,List.getElem?_append_right (Nat.le_refl _),Nat.sub_self,List.take_append_of_le_length (Nat.le_refl _),List.take_length]
  rfl
theorem K5{l:List Int}{i:Nat}{k:Int}(h:l[i]?=some k):(BQ l)[i]?=some (kdS k,(cX (l.take i):Int),(cY (l.take i):Int)):=by
 have hi:i<l.length:=(List.getElem?_eq_some_iff.1 h).1
 unfold BQ
 rw[List.getElem?_map,List.getElem?_range hi,Option.map_some,List.getD_eq_getElem?_getD,h]
 rfl
theorem PC{k:Int}{a b:List Int}{x y:Nat}{l:List Int}(h:mvs (k::l) (a.drop x,b.drop y)=some ([],[])):mvs l (a.drop (x+if k=3 then 0 else 1),b.drop (y+if k=2 then 0 else 1))=some ([],[])/\(k≠3->x<a.length)/\(k≠2->y<b.length)/\(k=1 -> ∃ p,a[x]?=some p/\b[y]?=some p):=by
 have hd:∀ {m:List Int} {z:Nat} {p:Int} {m':List Int},m.drop z=p::m'->m.drop (z+1)=m'/\z<m.length/\m[z]?=some p:=fun{m z p m'} e=>by
  have hz:z<m.length:=by
   rcases Nat.lt_or_ge z m.length with h | h
   ·exact h
   ·rw[List.drop_eq_nil_of_le h]at e;cases e
  rw[List.drop_eq_getElem_cons hz]at e
  injection e with e1 e2
  exact⟨e2,hz,by rw[List.getElem?_eq_getElem hz,e1]⟩
 have h0:mvs (k::l) (a.drop x,b.drop y)=(mv k (a.drop x,b.drop y)).bind (mvs l):=rfl
 rw[h0]at h
 by_cases k1:k=1
 ·subst k1
  cases ea:a.drop x with
  | nil=>rw[ea]at h;simp[mv]at h
  | cons p a'=>
   cases eb:b.drop y with
   | nil=>rw[ea,eb]at h;simp[mv]at h
   | cons q b'=>
    rw[ea,eb]at h
    have hm:mv 1 (p::a',q::b')=if p=q then some (a',b')else none:=rfl
    rw[hm]at h
    by_cases e:p=q
    ·rw[if_pos e]at h
     subst e
     obtain⟨h1,h2,h3⟩:=hd ea
     obtain⟨h4,h5,h6⟩:=hd eb
     rw[if_neg (by decide),if_neg (by decide),h1,h4]
     exact⟨h,fun _=>h2,fun _=>h5,fun _=>⟨_,h3,h6⟩⟩
    ·rw[if_neg e]at h;cases h
 by_cases k2:k=2
 ·subst k2
  cases ea:a.drop x with
  | nil=>rw[ea]at h;simp[mv]at h
  | cons p a'=>
   rw[ea]at h
   obtain⟨h1,h2,h3⟩:=hd ea
   rw[if_neg (by decide),if_pos rfl,h1]
   exact⟨h,fun _=>h2,fun h=>absurd rfl h,fun h=>absurd h k1⟩
 by_cases k3:k=3
 ·subst k3
  cases eb:b.drop y with
  | nil=>rw[eb]at h;simp[mv]at h
  | cons q b'=>
   rw[eb]at h
   obtain⟨h1,h2,h3⟩:=hd eb
   rw[if_pos rfl,if_neg (by decide),h1]
   exact⟨h,fun h=>absurd rfl h,fun _=>h2,fun h=>absurd h k1⟩
 ·simp[mv,k1,k2,k3]at h
theorem RI{a b:List Int}{x y:Nat}(h:mvs [] (a.drop x,b.drop y)=some ([],[])):a.length<=x/\b.length<=y:=by
 have h1:(a.drop x,b.drop y)=(([],[]):LL):=Option.some.inj h
 injection h1 with h1 h2
 have h3:=congrArg List.length h1
 have h4:=congrArg List.length h2
 rw[List.length_drop]at h3 h4
 simp only[List.length_nil]at h3 h4
 omega
def NP(l:List Int):Prop:=∀ i:Nat,l[i]?=some 3->l[i+1]?=some 2->False
theorem NP.snoc{l:List Int}{k:Int}(h:NP l)(hk:k≠2\/l.getLast? ≠ some 3):NP (l++[k]):=fun i h1 h2=>by
 rcases Nat.lt_or_ge (i+1) l.length with hi | hi
 ·rw[List.getElem?_append_left (by omega)]at h1
  rw[List.getElem?_append_left hi]at h2
  exact h i h1 h2
 ·rw[List.getElem?_append_right hi]at h2
  have h0:i+1-l.length=0:=by
   rcases Nat.eq_zero_or_pos (i+1-l.length)with h | h
   ·exact h
   ·rw[List.getElem?_eq_none (by simp only[List.length_singleton];omega)]at h2;cases h2
  rw[h0]at h2
  obtain rfl:k=2:=by simpa using h2
  rw[List.getElem?_append_left (by omega),show i=l.length-1 by omega,<- List.getLast?_eq_getElem?]at h1
  rcases hk with h | h
  ·exact h rfl
  ·exact h h1
theorem JX(l:List Int)(k:Int):∀ n,(l++List.replicate n k).getLast?=if n=0 then l.getLast? else some k
 | 0=>by simp
 | n+1=>by rw[List.replicate_succ',<- List.append_assoc,List.getLast?_append];simp
theorem NP.rep{l:List Int}{k:Int}(h:NP l)(hk:k≠2\/l.getLast? ≠ some 3):∀ n,NP (l++List.replicate n k)
 | 0=>by simpa using h
 | n+1=>by
  rw[List.replicate_succ',<- List.append_assoc]
  refine(NP.rep h hk n).snoc ?_
  rcases hk with hk | hk
  ·exact .inl hk
  ·rw[JX]
   by_cases hn:n=0
   ·rw[if_pos hn];exact .inr hk
   ·rw[if_neg hn]
    by_cases h2:k=2
    ·refine .inr ?_
     rw[h2]
     decide
    ·exact .inl h2
theorem QW{t:Td}(h:NP t.1)(hl:t.1.getLast? ≠ some 3):NP (fl t):=(h.rep (.inr hl) _).rep (.inl (by decide)) _
theorem RA{t:Td}(h:NP t.1)(hl:t.1.getLast? ≠ some 3)(k:Int)(c:Nat):NP (td1 t k c).1/\(td1 t k c).1.getLast? ≠ some 3:=by
 unfold td1
 split
 ·exact⟨h,hl⟩
 ·rename_i hc
  split
  ·refine⟨(QW h hl).rep (.inl (by decide)) _,?_⟩
   show(fl t++List.replicate c 1).getLast? ≠ some 3
   rw[JX,if_neg hc]
   decide
  ·split
   ·exact⟨h,hl⟩
   ·split<;>exact⟨h,hl⟩
theorem QS:∀ (r:List Rn) {t:Td},NP t.1->t.1.getLast? ≠ some 3->NP (fl (td t r))
 | [],_,h,hl=>QW h hl
 | p::r,t,h,hl=>by
  obtain⟨h1,h2⟩:=RA h hl p.1 p.2.toNat
  exact QS r (t:=td1 t p.1 p.2.toNat) h1 h2
def stA(a b:List Int):List Int:=fl (td ([],0,0) (B2 (BC a b)))
theorem ON(a b:List Int):ex (FI (B2 (BC a b)))=stA a b:=(FC _).2
theorem QX(a b:List Int):K3 (stA a b):=K3.fl (SM _ fun z hz=>by cases hz)
theorem R6(a b:List Int):NP (stA a b):=QS _ (fun i h _=>by simp at h) (by decide)
theorem QF{a b:List Int}(h:mvs (BC a b) (a,b)=some ([],[])):mvs (stA a b) (a,b)=some ([],[]):=by
 unfold stA
 rw[O3 _ _ _ (KM (O6 a b)),(FC _).2]
 exact h
theorem KY:∀ (r:List Rn) (t:Td),(fl (td t r)).length<=(fl t).length+(ex r).length
 | [],t=>by simp[td,ex]
 | p::r,t=>by
  have h1:=KY r (td1 t p.1 p.2.toNat)
  have h2:=IZ t p.1 p.2.toNat
  have h0:ex (p::r)=List.replicate p.2.toNat p.1++ex r:=rfl
  show(fl (td (td1 t p.1 p.2.toNat) r)).length<=_
  rw[h0,List.length_append,List.length_replicate]
  omega
theorem KZ(a b:List Int):(stA a b).length<=(BC a b).length:=by
 have:=KY (B2 (BC a b)) ([],0,0)
 rw[(FC _).2]at this
 have h0:(fl ([],0,0)).length=0:=rfl
 unfold stA
 omega
theorem MV{l:List Tx}{n:Nat}{z:Tx}(h:l[n]?=some z)(s:Tx):(CG l s)[n]?=some z:=by
 have hn:n<l.length:=(List.getElem?_eq_some_iff.1 h).1
 unfold CG
 split
 ·exact h
 ·rw[List.getElem?_append_left hn];exact h
theorem EM{n:Nat}{z:Tx}:∀ (m:List Tx) {l:List Tx},l[n]?=some z->(BE l m)[n]?=some z
 | [],_,h=>h
 | s::m,_,h=>EM m (MV h s)
theorem N0(l:List Tx)(s:Tx):(CG l s)[pos s l]?=some s:=by
 have h1:=IU s l
 unfold CG
 split
 ·rename_i h
  have:=(GJ s l (pos s l) _ (List.getElem?_eq_getElem h) (Nat.le_refl _)).2 rfl
  rw[List.getElem?_eq_getElem h,this]
 ·rw[show pos s l=l.length by omega,List.getElem?_append_right (Nat.le_refl _),Nat.sub_self]
  rfl
theorem FP:∀ (m:List Tx) (l:List Tx) {i n:Nat} {s:Tx},(C6 l m)[i]?=some n->m[i]?=some s->(BE l m)[n]?=some s
 | [],_,_,_,_,_,h=>by simp at h
 | x::m,l,0,n,s,h1,h2=>by
  obtain rfl:pos x l=n:=by simpa[C6]using h1
  obtain rfl:x=s:=by simpa using h2
  exact EM m (N0 l x)
 | x::m,l,i+1,n,s,h1,h2=>FP m (CG l x) (i:=i) (by simpa[C6]using h1) (by simpa using h2)
def nA(a:List Tx):List Int:=(C6 [] a).map Int.ofNat
def nB(a b:List Tx):List Int:=(C6 (BE [] a) b).map Int.ofNat
theorem FQ(a:List Tx):(nA a).length=a.length:=by rw[nA,List.length_map,E1]
theorem FW(a b:List Tx):(nB a b).length=b.length:=by rw[nB,List.length_map,E1]
theorem LZ{l:List Nat}{i:Nat}{p:Int}(h:(l.map Int.ofNat)[i]?=some p):∃ n:Nat,p=(n:Int)/\l[i]?=some n:=by
 rw[List.getElem?_map]at h
 cases e:l[i]? with
 | none=>rw[e]at h;cases h
 | some n=>rw[e]at h;exact⟨n,(Option.some.inj h).symm,rfl⟩
theorem MX{a b:List Tx}{x y:Nat}{p:Int}{s t:Tx}(h1:(nA a)[x]?=some p)(h2:(nB a b)[y]?=some p)(hs:a[x]?=some s)(ht:b[y]?=some t):s=t:=by
 obtain⟨n,rfl,e1⟩:=LZ h1
 obtain⟨m,e,e2⟩:=LZ h2
 obtain rfl:n=m:=by omega
 have t1:=EM b (FP a [] e1 hs)
 have t2:=FP b (BE [] a) e2 ht
 exact Option.some.inj (t1.symm.trans t2)
def stD(p:Sp):List Dat:=[zC p.1,zC p.2.1,zC p.2.2]
theorem F1(p:Sp):(stD p).length=3:=rfl
abbrev H9(l:List Sp):Dat:=.row 3 l.length (l.flatMap stD)
theorem GF(l:List Int)(k:Int):(BQ l).flatMap stD++[zC (kdS k),zC (cX l:Int),zC (cY l:Int)]=(BQ (l++[k])).flatMap stD:=by rw[IB,List.flatMap_append];rfl
theorem GG(l:List Int)(k:Int):(BQ l).length+1=(BQ (l++[k])).length:=by rw[CQ,CQ,List.length_append];rfl
theorem SY(l:List Int):(BQ l).flatMap stD++[zC 1,zC (cX l:Int),zC (cY l:Int)]=(BQ (l++[1])).flatMap stD:=GF l 1
theorem SJ(l:List Int):(BQ l).flatMap stD++[zC 3,zC (cX l:Int),zC (cY l:Int)]=(BQ (l++[2])).flatMap stD:=GF l 2
theorem ST(l:List Int):(BQ l).flatMap stD++[zC 4,zC (cX l:Int),zC (cY l:Int)]=(BQ (l++[3])).flatMap stD:=GF l 3
theorem cx1(l:List Int):(cX l:Int)+1=(cX (l++[1]):Int)/\(cY l:Int)+1=(cY (l++[1]):Int):=by rw[GH,GL];exact⟨rfl,rfl⟩
theorem cx2(l:List Int):(cX l:Int)+1=(cX (l++[2]):Int)/\(cY l:Int)=(cY (l++[2]):Int):=by rw[GH,GL];exact⟨rfl,rfl⟩
theorem cx3(l:List Int):(cX l:Int)=(cX (l++[3]):Int)/\(cY l:Int)+1=(cY (l++[3]):Int):=by rw[GH,GL];exact⟨rfl,rfl⟩
theorem LI{rs:List Rn}{i:Nat}{k c:Int}(h:rs[i]?=some (k,c)):ex (rs.take (i+1))=ex (rs.take i)++List.replicate c.toNat k:=by
 rw[List.take_add_one,h,E7]
 congr 1
 exact GX k c
theorem L9{n:Nat}{rs:List Rn}(h:∀ p∈rs,p.2<=(n:Int)):(ex rs).length<=n*rs.length:=by
 induction rs with
 | nil=>exact Nat.zero_le _
 | cons p r ih=>
  have h1:=ih fun q hq=>h q (List.mem_cons_of_mem _ hq)
  have h2:=h p List.mem_cons_self
  have h0:ex (p::r)=List.replicate p.2.toNat p.1++ex r:=rfl
  rw[h0,List.length_append,List.length_replicate,List.length_cons,Nat.mul_succ]
  omega
theorem LY(l:List Int)(k:Int)(j:Nat):l++List.replicate j k++[k]=l++List.replicate (j+1) k:=by rw[List.append_assoc,<- List.replicate_succ']
structure RnOk (rs:List Rn):Prop where
 len:rs.length<=1000
 k:∀ p∈rs,p.1=1\/p.1=2\/p.1=3
 c:∀ p∈rs,p.2<=1000
abbrev stW(E:List Int):Rw:=⟨31,3,(BQ E).length,(BQ E).flatMap stD,false⟩
set_option maxHeartbeats 2000000 in
theorem KF(rs:List Rn)(ho:RnOk rs):EF Try.prog [] 11 [.one (DR rs)] (.part (.one (H9 (BQ (ex rs))))):=by
 have hrl:=ho.len
 refine AU 55 Try.func11 rfl rfl rfl fun w D=>?_
 try refine A1 ?_
 refine A0 (A7 rfl rfl rfl rfl rfl .nil) ?_
 try refine A1 ?_
 refine A0 (A7 rfl rfl rfl rfl rfl .nil) ?_
 try refine A1 ?_
 refine BW 3 1000 31 3 rfl rfl rfl ?_
 refine A0 (A7 rfl rfl rfl rfl rfl (A7 rfl rfl rfl rfl rfl .nil)) ?_
 try refine A1 ?_
 refine A0 (A5 rfl rfl rfl rfl rfl (A3 rfl rfl rfl (AO rfl (kn rfl) sle_38) (A5 rfl rfl rfl rfl rfl .nil))) ?_
 try refine A1 ?_
 refine B7 (ι:={ i:Nat // i<=rs.length })
  (fun i=>[(3,.own 1000),(4,zI (cX (ex (rs.take i.1)):Int)),(5,zI (cY (ex (rs.take i.1)):Int)),(8,.part (.one (DR rs))),(9,zI (rs.length:Int)),(10,zI (i.1:Int))])
  (fun _=>[]) (fun i=>[(1000,stW (ex (rs.take i.1)))]) (fun i=>rs.length-i.1) ⟨0,Nat.zero_le _⟩
  (fun K=>AE ⟨s_t,s_t,s_t,s_t,s_t,s_t,trivial⟩ trivial ⟨rfl,trivial⟩) ?_
 rintro⟨i,hi⟩
 dsimp only at hi ⊢
 try refine A1 ?_
 refine A0 (A3 rfl rfl rfl (A4 rfl (kn rfl) (kn rfl) B9) .nil) ?_
 try refine A1 ?_
 refine AC rfl (fun h=>?_) (fun h=>?_)
 ·have hlt:=ltd h
  obtain⟨⟨k,c⟩,hp⟩:∃ p,rs[i]?=some p:=⟨_,List.getElem?_eq_getElem hlt⟩
  have hcc:c<=1000:=ho.c _ (List.mem_of_getElem? hp)
  have hk3:k=1\/k=2\/k=3:=ho.k _ (List.mem_of_getElem? hp)
  have hel:=L9 (n:=1000) (rs:=rs.take i) fun p hp=>ho.c p (List.mem_of_mem_take hp)
  rw[List.length_take]at hel
  have hnext:=LI hp
  generalize ex (rs.take i)=E at hel hnext ⊢
  try refine A1 ?_
  refine AG ?_
  refine AJ (AH rfl (kn rfl) (kn rfl) (by omega) hp F2 sle_38 esz_38 rfl) ?_
  refine AJ (BK rfl (kn rfl) agg_52 sz_52) ?_
  refine DM 7 [.is (.int .i64 0),.is (.int .i64 0)] rfl rfl rfl rfl zr_52 (fun w D M V=>⟨rfl,fun j x v h1 h2=>DE _ h1 h2 rfl⟩) rfl rfl rfl rfl ?_
  refine CS rfl rfl rfl (kn rfl) rfl (kn rfl) rfl rfl sz_52 ?_
  refine AA ?_
  try refine A1 ?_
  refine A0 (A3 rfl rfl rfl (AQ rfl (kn rfl) off_52_1) (A3 rfl rfl rfl (AP rfl (kn rfl) rfl rfl one_3) (A5 rfl rfl rfl rfl rfl .nil))) ?_
  try refine A1 ?_
  refine B7 (ι:={ j:Nat // j<=c.toNat })
   (fun j=>[(3,.own 1000),(4,zI (cX (E++List.replicate j.1 k):Int)),(5,zI (cY (E++List.replicate j.1 k):Int)),(7,.box 7 0),(8,.part (.one (DR rs))),(9,zI (rs.length:Int)),(10,zI (i:Int)),(15,zI c),(16,zI (j.1:Int))])
   (fun _=>[(7,⟨52,[zI k,zI c]⟩)]) (fun j=>[(1000,stW (E++List.replicate j.1 k))]) (fun j=>c.toNat-j.1) ⟨0,Nat.zero_le _⟩
   (fun K=>AE ⟨s_t,s_z rfl (by simp),s_z rfl (by simp),s_t,s_t,s_t,s_t,s_t,s_t,trivial⟩ ⟨s_b,trivial⟩ ⟨by dsimp only;rw[List.replicate_zero,List.append_nil];rfl,trivial⟩) ?_
  rintro⟨j,hj⟩
  dsimp only at hj ⊢
  have hsn:=LY E k j
  have hol:(BQ (E++List.replicate j k)).length<=2000000:=by rw[CQ,List.length_append,List.length_replicate];omega
  generalize hF:E++List.replicate j k=F at hsn hol ⊢
  have hx1:=R5 F
  have hy1:=QO F
  have hfl:=CQ F
  try refine A1 ?_
  refine A0 (A3 rfl rfl rfl (A4 rfl (kn rfl) (kn rfl) B9) .nil) ?_
  try refine A1 ?_
  refine AC rfl (fun h1=>?_) (fun h1=>?_)
  ·have hjl:j<c.toNat:=by have:=of_decide_eq_true h1;omega
   try refine A1 ?_
   refine A0 (A3 rfl rfl rfl (AQ rfl (kn rfl) off_52_0) (A3 rfl rfl rfl (AP rfl (kn rfl) rfl rfl one_3) .nil)) ?_
   try refine A1 ?_
   refine A0 (A3 rfl rfl rfl (A4 rfl (kn rfl) (kn rfl) B4) (A7 rfl rfl rfl rfl rfl .nil)) ?_
   try refine A1 ?_
   refine AC rfl (fun h2=>?_) (fun h2=>?_)
   ·obtain rfl:=of_decide_eq_true h2
    try refine A1 ?_
    refine AG ?_
    refine AI ?_
    refine AI ?_
    refine AI ?_
    refine AJ (C4 (ds:=[_,_,_]) [(0,_),(1,_),(2,_)] rfl ⟨rfl,(kn rfl),⟨rfl,(kn rfl),⟨rfl,(kn rfl),trivial⟩⟩⟩ rfl pl_31 zr_31 (fun w D=>.cons (.cell _) (.cons (.cell _) (.cons (.cell _) (.nil _ _)))) rfl) ?_
    refine AJ (AD (ds:=[_,_,_]) [(0,_)] rfl ⟨rfl,(kn rfl),trivial⟩ rfl sl_25 sz_31 zr_31 (fun w D=>.cons (.cell _) (.cons (.cell _) (.cons (.cell _) (.nil _ _)))) rfl rfl rfl rfl rfl) ?_
    refine AW rfl rfl rfl rfl (kn rfl) rfl (kn rfl) sl_25 ap_25 rfl rfl (by omega) (by omega) ?_
    refine BG (GG _ 1) (SY _) ?_
    refine B5 ?_
    refine AA ?_
    try refine A1 ?_
    refine A0 (A5 rfl rfl rfl rfl rfl (A3 rfl rfl rfl (A4 rfl (kn rfl) (kn rfl) (A9 (by first | omega | (dsimp only;omega)))) (A5 rfl rfl rfl rfl rfl (A3 rfl rfl rfl (A4 rfl (kn rfl) (kn rfl) (A9 (by first | omega | (dsimp only;omega)))) (A7 rfl rfl rfl rfl rfl (A7 rfl rfl rfl rfl rfl .nil)))))) ?_
    try refine A1 ?_
    refine A0 (A3 rfl rfl rfl (A4 rfl (kn rfl) (kn rfl) (A9 (by first | omega | (dsimp only;omega)))) (A5 rfl rfl rfl rfl rfl .nil)) ?_
    try refine A1 ?_
    refine AF ⟨j+1,by omega⟩ (by dsimp only;omega) (fun K=>AE ⟨s_t,s_z rfl (by dsimp only;rw[<- hsn];exact(cx1 F).1),s_z rfl (by dsimp only;rw[<- hsn];exact(cx1 F).2),s_t,s_t,s_t,s_t,s_t,s_t,trivial⟩ ⟨s_b,trivial⟩ ⟨by dsimp only;rw[<- hsn];rfl,trivial⟩)
   try refine A1 ?_
   refine A0 (A3 rfl rfl rfl (A4 rfl (kn rfl) (kn rfl) B4) (A7 rfl rfl rfl rfl rfl .nil)) ?_
   try refine A1 ?_
   refine AC rfl (fun h3=>?_) (fun h3=>?_)
   ·obtain rfl:=of_decide_eq_true h3
    try refine A1 ?_
    refine AG ?_
    refine AI ?_
    refine AI ?_
    refine AI ?_
    refine AJ (C4 (ds:=[_,_,_]) [(0,_),(1,_),(2,_)] rfl ⟨rfl,(kn rfl),⟨rfl,(kn rfl),⟨rfl,(kn rfl),trivial⟩⟩⟩ rfl pl_31 zr_31 (fun w D=>.cons (.cell _) (.cons (.cell _) (.cons (.cell _) (.nil _ _)))) rfl) ?_
    refine AJ (AD (ds:=[_,_,_]) [(0,_)] rfl ⟨rfl,(kn rfl),trivial⟩ rfl sl_25 sz_31 zr_31 (fun w D=>.cons (.cell _) (.cons (.cell _) (.cons (.cell _) (.nil _ _)))) rfl rfl rfl rfl rfl) ?_
    refine AW rfl rfl rfl rfl (kn rfl) rfl (kn rfl) sl_25 ap_25 rfl rfl (by omega) (by omega) ?_
    refine BG (GG _ 2) (SJ _) ?_
    refine B5 ?_
    refine AA ?_
    try refine A1 ?_
    refine A0 (A5 rfl rfl rfl rfl rfl (A3 rfl rfl rfl (A4 rfl (kn rfl) (kn rfl) (A9 (by first | omega | (dsimp only;omega)))) (A7 rfl rfl rfl rfl rfl .nil))) ?_
    try refine A1 ?_
    refine A0 (A3 rfl rfl rfl (A4 rfl (kn rfl) (kn rfl) (A9 (by first | omega | (dsimp only;omega)))) (A5 rfl rfl rfl rfl rfl .nil)) ?_
    try refine A1 ?_
    refine AF ⟨j+1,by omega⟩ (by dsimp only;omega) (fun K=>AE ⟨s_t,s_z rfl (by dsimp only;rw[<- hsn];exact(cx2 F).1),s_z rfl (by dsimp only;rw[<- hsn];exact(cx2 F).2),s_t,s_t,s_t,s_t,s_t,s_t,trivial⟩ ⟨s_b,trivial⟩ ⟨by dsimp only;rw[<- hsn];rfl,trivial⟩)
   try refine A1 ?_
   refine A0 (A3 rfl rfl rfl (A4 rfl (kn rfl) (kn rfl) B4) (A7 rfl rfl rfl rfl rfl .nil)) ?_
   try refine A1 ?_
   obtain rfl:k=3:=by
    have:=of_decide_eq_false h2
    have:=of_decide_eq_false h3
    omega
   refine G8 ?_
   try refine A1 ?_
   refine AG ?_
   refine AI ?_
   refine AI ?_
   refine AI ?_
   refine AJ (C4 (ds:=[_,_,_]) [(0,_),(1,_),(2,_)] rfl ⟨rfl,(kn rfl),⟨rfl,(kn rfl),⟨rfl,(kn rfl),trivial⟩⟩⟩ rfl pl_31 zr_31 (fun w D=>.cons (.cell _) (.cons (.cell _) (.cons (.cell _) (.nil _ _)))) rfl) ?_
   refine AJ (AD (ds:=[_,_,_]) [(0,_)] rfl ⟨rfl,(kn rfl),trivial⟩ rfl sl_25 sz_31 zr_31 (fun w D=>.cons (.cell _) (.cons (.cell _) (.cons (.cell _) (.nil _ _)))) rfl rfl rfl rfl rfl) ?_
   refine AW rfl rfl rfl rfl (kn rfl) rfl (kn rfl) sl_25 ap_25 rfl rfl (by omega) (by omega) ?_
   refine BG (GG _ 3) (ST _) ?_
   refine B5 ?_
   refine AA ?_
   try refine A1 ?_
   refine A0 (A5 rfl rfl rfl rfl rfl (A3 rfl rfl rfl (A4 rfl (kn rfl) (kn rfl) (A9 (by first | omega | (dsimp only;omega)))) (A7 rfl rfl rfl rfl rfl .nil))) ?_
   try refine A1 ?_
   refine A0 (A3 rfl rfl rfl (A4 rfl (kn rfl) (kn rfl) (A9 (by first | omega | (dsimp only;omega)))) (A5 rfl rfl rfl rfl rfl .nil)) ?_
   try refine A1 ?_
   refine AF ⟨j+1,by omega⟩ (by dsimp only;omega) (fun K=>AE ⟨s_t,s_z rfl (by dsimp only;rw[<- hsn];exact(cx3 F).1),s_z rfl (by dsimp only;rw[<- hsn];exact(cx3 F).2),s_t,s_t,s_t,s_t,s_t,s_t,trivial⟩ ⟨s_b,trivial⟩ ⟨by dsimp only;rw[<- hsn];rfl,trivial⟩)
  obtain rfl:j=c.toNat:=by have:=of_decide_eq_false h1;omega
  rw[<- hnext]at hF
  subst hF
  try refine A1 ?_
  refine A0 (A3 rfl rfl rfl (A4 rfl (kn rfl) (kn rfl) (A9 (by first | omega | (dsimp only;omega)))) (A5 rfl rfl rfl rfl rfl .nil)) ?_
  try refine A1 ?_
  refine AF ⟨i+1,hlt⟩ (by dsimp only;omega) (fun K=>AE ⟨s_t,s_t,s_t,s_t,s_t,s_t,trivial⟩ trivial ⟨rfl,trivial⟩)
 rw[List.take_of_length_le (ltf h)]
 try refine A1 ?_
 refine AL 3 1000 rfl rfl rfl ?_
 refine A0 (A5 rfl rfl rfl rfl rfl (A7 rfl rfl rfl rfl rfl .nil)) ?_
 try refine A1 ?_
 exact AM rfl rfl (.tmp (kn rfl) (.nil)) (Imp.refl _) rfl
abbrev stV(E:List Int):Rw:=⟨34,3,(BQ E).length,(BQ E).flatMap stD,false⟩
theorem RN{k:Int}(h:k=1\/k=2\/k=3):0<=k/\([0,1,3,4]:List Int)[k.toNat]?=some (kdS k):=by
 rcases h with rfl | rfl | rfl<;>exact⟨by decide,rfl⟩
theorem LK(l:List Nat):nsD l=zsD (l.map Int.ofNat):=by
 unfold nsD zsD
 rw[List.length_map,List.flatMap_map]
 rfl
theorem g0{α:Type}(x y:α):[x,y][(0:Int).toNat]?=some x:=rfl
theorem g1{α:Type}(x y:α):[x,y][(1:Int).toNat]?=some y:=rfl
theorem SK{a b:List Tx}(ha:a.length<=1000)(hb:b.length<=1000):Few [a,b]:=⟨Nat.le_of_ble_eq_true rfl,fun m hm=>by
 simp only[List.mem_cons,List.not_mem_nil,or_false]at hm
 rcases hm with rfl | rfl<;>omega⟩
theorem OA{a b:List Int}(ha:a.length<=100)(hb:b.length<=100):(B2 (BC a b)).length<=1000/\(∀ p∈B2 (BC a b),p.2<=200)/\RnOk (FI (B2 (BC a b))):=by
 have h1:=EL a b
 have h2:=E5 (BC a b)
 have hc:∀ p∈B2 (BC a b),p.2<=((200:Nat):Int):=fun p hp=>by have:=(CN hp).2.1;omega
 have hl:(stA a b).length<=200:=by
  exact Nat.le_trans (KZ a b) (by omega)
 refine⟨by omega,hc,⟨?_,fun p hp=>QX a b _ (CN hp).2.2,fun p hp=>?_⟩⟩
 ·have:(FI (B2 (BC a b))).length<=(stA a b).length:=E5 _
  omega
 ·have:p.2<=((stA a b).length:Int):=(CN hp).2.1
  omega
set_option maxHeartbeats 2000000 in
theorem J8(a b:List Tx)(ha:a.length<=100)(hb:b.length<=100):EF Try.prog [] 8 [.one (txD a),.one (txD b)] (.part (.one (H9 (BQ (stA (nA a) (nB a b)))))):=by
 have hn:EF Try.prog [] 14 [.one (HA [a,b])] (.part (.one (NB [C6 [] a,C6 (BE [] a) b]))):=MR [a,b] (SK (by omega) (by omega))
 have hal:=OR (nA a) (nB a b) (by rw[FQ];omega) (by rw[FW];omega)
 have hsl:=EL (nA a) (nB a b)
 have hok:=OA (a:=nA a) (b:=nB a b) (by rw[FQ];omega) (by rw[FW];omega)
 rw[FQ,FW]at hsl
 rw[<- ON]
 rw[show zsD (nA a)=nsD (C6 [] a) from(LK _).symm,show zsD (nB a b)=nsD (C6 (BE [] a) b) from(LK _).symm]at hal
 generalize BC (nA a) (nB a b)=sl at hal hsl hok ⊢
 have hru:=LF sl (by omega)
 have htd:=KH (B2 sl) hok.1 hok.2.1
 have ho:=hok.2.2
 generalize FI (B2 sl)=rs at htd ho ⊢
 have hrl:=ho.len
 refine AU 60 Try.func8 rfl rfl rfl fun w D=>?_
 try refine A1 ?_
 refine A0 (A7 rfl rfl rfl rfl rfl .nil) ?_
 try refine A1 ?_
 refine A0 (A5 rfl rfl rfl rfl rfl (A5 rfl rfl rfl rfl rfl (A3 rfl rfl rfl (AD (ds:=[_,_]) [(0,_),(1,_)] rfl ⟨rfl,(kn rfl),⟨rfl,(kn rfl),trivial⟩⟩ rfl sl_43 sz_22 zr_22 (fun w D=>.cons (.cell _) (.cons (.cell _) (.nil _ _))) rfl rfl rfl rfl rfl) (A3 rfl rfl rfl (B6 rfl (by kernel_rfl) (hn) ⟨(kn rfl),trivial⟩) (A7 rfl rfl rfl rfl rfl .nil))))) ?_
 try refine A1 ?_
 refine AG ?_
 refine C7 1000 rfl rfl rfl rfl sl_28 ap_28 rfl rfl ?_
 refine B5 ?_
 refine AA ?_
 try refine A1 ?_
 refine A0 (A7 rfl rfl rfl rfl rfl (A7 rfl rfl rfl rfl rfl .nil)) ?_
 try refine A1 ?_
 refine C2 BP (by kernel_rfl) (A5 rfl rfl rfl rfl rfl (A3 rfl rfl rfl (AH rfl (kn rfl) (kn rfl) (by omega) (g0 _ _) E3 sle_35 esz_35 rfl) (A3 rfl rfl rfl (A8 rfl (kn rfl) one_41) (A5 rfl rfl rfl rfl rfl (A3 rfl rfl rfl (AH rfl (kn rfl) (kn rfl) (by omega) (g1 _ _) E3 sle_35 esz_35 rfl) (A3 rfl rfl rfl (A8 rfl (kn rfl) one_41) (A3 rfl rfl rfl (B6 rfl (by kernel_rfl) (hal) ⟨(kn rfl),⟨(kn rfl),trivial⟩⟩) (A3 rfl rfl rfl (B6 rfl (by kernel_rfl) (hru) ⟨(kn rfl),trivial⟩) (A3 rfl rfl rfl (B6 rfl (by kernel_rfl) (htd) ⟨(kn rfl),trivial⟩) (A3 rfl rfl rfl (AO rfl (kn rfl) sle_44) (A5 rfl rfl rfl rfl rfl .nil))))))))))) ?_
 try refine A1 ?_
 refine B7 (ι:={ i:Nat // i<=rs.length })
  (fun i=>[(6,.own 1000),(7,zI (cX (ex (rs.take i.1)):Int)),(8,zI (cY (ex (rs.take i.1)):Int)),(25,.part (.one (DR rs))),(26,zI (rs.length:Int)),(27,zI (i.1:Int))])
  (fun _=>[]) (fun i=>[(1000,stV (ex (rs.take i.1)))]) (fun i=>rs.length-i.1) ⟨0,Nat.zero_le _⟩
  (fun K=>AE ⟨s_t,s_t,s_t,s_t,s_t,s_t,trivial⟩ trivial ⟨rfl,trivial⟩) ?_
 rintro⟨i,hi⟩
 dsimp only at hi ⊢
 try refine A1 ?_
 refine A0 (A3 rfl rfl rfl (A4 rfl (kn rfl) (kn rfl) B9) .nil) ?_
 try refine A1 ?_
 refine AC rfl (fun h=>?_) (fun h=>?_)
 ·have hlt:=ltd h
  obtain⟨⟨k,c⟩,hp⟩:∃ p,rs[i]?=some p:=⟨_,List.getElem?_eq_getElem hlt⟩
  have hcc:c<=1000:=ho.c _ (List.mem_of_getElem? hp)
  have hk3:k=1\/k=2\/k=3:=ho.k _ (List.mem_of_getElem? hp)
  obtain⟨hk0,hkd⟩:=RN hk3
  have hel:=L9 (n:=1000) (rs:=rs.take i) fun p hp=>ho.c p (List.mem_of_mem_take hp)
  rw[List.length_take]at hel
  have hnext:=LI hp
  generalize ex (rs.take i)=E at hel hnext ⊢
  try refine A1 ?_
  refine AG ?_
  refine AJ (AH rfl (kn rfl) (kn rfl) (by omega) hp F2 sle_44 esz_44 rfl) ?_
  refine AJ (BK rfl (kn rfl) agg_49 sz_49) ?_
  refine DM 10 [.is (.int .i64 0),.is (.int .i64 0)] rfl rfl rfl rfl zr_49 (fun w D M V=>⟨rfl,fun j x v h1 h2=>DE _ h1 h2 rfl⟩) rfl rfl rfl rfl ?_
  refine CS rfl rfl rfl (kn rfl) rfl (kn rfl) rfl rfl sz_49 ?_
  refine AA ?_
  try refine A1 ?_
  refine A0 (A7 rfl rfl rfl rfl rfl .nil) ?_
  try refine A1 ?_
  refine B7 (ι:={ j:Nat // j<=c.toNat })
   (fun j=>[(6,.own 1000),(7,zI (cX (E++List.replicate j.1 k):Int)),(8,zI (cY (E++List.replicate j.1 k):Int)),(10,.box 10 0),(11,zI (j.1:Int)),(25,.part (.one (DR rs))),(26,zI (rs.length:Int)),(27,zI (i:Int))])
   (fun _=>[(10,⟨49,[zI k,zI c]⟩)]) (fun j=>[(1000,stV (E++List.replicate j.1 k))]) (fun j=>c.toNat-j.1) ⟨0,Nat.zero_le _⟩
   (fun K=>AE ⟨s_t,s_z rfl (by simp),s_z rfl (by simp),s_t,s_t,s_t,s_t,s_t,trivial⟩ ⟨s_b,trivial⟩ ⟨by dsimp only;rw[List.replicate_zero,List.append_nil];rfl,trivial⟩) ?_
  rintro⟨j,hj⟩
  dsimp only at hj ⊢
  have hsn:=LY E k j
  have hol:(BQ (E++List.replicate j k)).length<=2000000:=by rw[CQ,List.length_append,List.length_replicate];omega
  generalize hF:E++List.replicate j k=F at hsn hol ⊢
  have hx1:=R5 F
  have hy1:=QO F
  have hfl:=CQ F
  try refine A1 ?_
  refine A0 (A5 rfl rfl rfl rfl rfl (A3 rfl rfl rfl (AQ rfl (kn rfl) off_49_1) (A3 rfl rfl rfl (AP rfl (kn rfl) rfl rfl one_3) (A3 rfl rfl rfl (A4 rfl (kn rfl) (kn rfl) B9) .nil)))) ?_
  try refine A1 ?_
  refine AC rfl (fun h1=>?_) (fun h1=>?_)
  ·have hjl:j<c.toNat:=by have:=of_decide_eq_true h1;omega
   try refine A1 ?_
   refine AG ?_
   refine AI ?_
   refine AJ (AD (ds:=[_,_,_,_]) [(0,_),(1,_),(2,_),(3,_)] rfl ⟨rfl,(kn rfl),⟨rfl,(kn rfl),⟨rfl,(kn rfl),⟨rfl,(kn rfl),trivial⟩⟩⟩⟩ rfl sl_41 sz_3 zr_3 (fun w D=>.cons (.cell _) (.cons (.cell _) (.cons (.cell _) (.cons (.cell _) (.nil _ _))))) rfl rfl rfl rfl rfl) ?_
   refine AJ (AQ rfl (kn rfl) off_49_0) ?_
   refine AJ (AP rfl (kn rfl) rfl rfl one_3) ?_
   refine AJ (AH (f:=zD1) (qs:=[0,1,3,4]) rfl (kn rfl) (kn rfl) hk0 hkd AS sle_41 esz_41 rfl) ?_
   refine AJ (A8 rfl (kn rfl) one_3) ?_
   refine AI ?_
   refine AI ?_
   refine AJ (C4 (ds:=[_,_,_]) [(0,_),(1,_),(2,_)] rfl ⟨rfl,(kn rfl),⟨rfl,(kn rfl),⟨rfl,(kn rfl),trivial⟩⟩⟩ rfl pl_34 zr_34 (fun w D=>.cons (.cell _) (.cons (.cell _) (.cons (.cell _) (.nil _ _)))) rfl) ?_
   refine AJ (AD (ds:=[_,_,_]) [(0,_)] rfl ⟨rfl,(kn rfl),trivial⟩ rfl sl_28 sz_34 zr_34 (fun w D=>.cons (.cell _) (.cons (.cell _) (.cons (.cell _) (.nil _ _)))) rfl rfl rfl rfl rfl) ?_
   refine AW rfl rfl rfl rfl (kn rfl) rfl (kn rfl) sl_28 ap_28 rfl rfl (by omega) (by omega) ?_
   refine BG (GG _ k) (GF _ k) ?_
   refine B5 ?_
   refine AA ?_
   try refine A1 ?_
   refine A0 (A3 rfl rfl rfl (AQ rfl (kn rfl) off_49_0) (A3 rfl rfl rfl (AP rfl (kn rfl) rfl rfl one_3) (A3 rfl rfl rfl (A4 rfl (kn rfl) (kn rfl) I6) .nil))) ?_
   try refine A1 ?_
   refine AC rfl (fun h2=>?_) (fun h2=>?_)
   ·try refine A1 ?_
    refine A0 (A5 rfl rfl rfl rfl rfl (A3 rfl rfl rfl (A4 rfl (kn rfl) (kn rfl) (A9 (by first | omega | (dsimp only;omega)))) (A7 rfl rfl rfl rfl rfl .nil))) ?_
    try refine A1 ?_
    refine A0 (A3 rfl rfl rfl (AQ rfl (kn rfl) off_49_0) (A3 rfl rfl rfl (AP rfl (kn rfl) rfl rfl one_3) (A3 rfl rfl rfl (A4 rfl (kn rfl) (kn rfl) I6) .nil))) ?_
    try refine A1 ?_
    refine AC rfl (fun h3=>?_) (fun h3=>?_)
    ·obtain rfl:k=1:=by
      simp only[Bool.not_eq_true',decide_eq_false_iff_not]at h2 h3
      omega
     try refine A1 ?_
     refine A0 (A5 rfl rfl rfl rfl rfl (A3 rfl rfl rfl (A4 rfl (kn rfl) (kn rfl) (A9 (by first | omega | (dsimp only;omega)))) (A7 rfl rfl rfl rfl rfl .nil))) ?_
     try refine A1 ?_
     refine A0 (A5 rfl rfl rfl rfl rfl (A3 rfl rfl rfl (A4 rfl (kn rfl) (kn rfl) (A9 (by first | omega | (dsimp only;omega)))) (A7 rfl rfl rfl rfl rfl .nil))) ?_
     try refine A1 ?_
     refine AF ⟨j+1,by omega⟩ (by dsimp only;omega) (fun K=>AE ⟨s_t,s_z rfl (by dsimp only;rw[<- hsn];exact(cx1 F).1),s_z rfl (by dsimp only;rw[<- hsn];exact(cx1 F).2),s_t,s_t,s_t,s_t,s_t,trivial⟩ ⟨s_b,trivial⟩ ⟨by dsimp only;rw[<- hsn];rfl,trivial⟩)
    ·obtain rfl:k=2:=by
      simp only[Bool.not_eq_false',decide_eq_true_eq]at h3
      exact h3
     try refine A1 ?_
     refine A0 (A5 rfl rfl rfl rfl rfl (A3 rfl rfl rfl (A4 rfl (kn rfl) (kn rfl) (A9 (by first | omega | (dsimp only;omega)))) (A7 rfl rfl rfl rfl rfl .nil))) ?_
     try refine A1 ?_
     refine AF ⟨j+1,by omega⟩ (by dsimp only;omega) (fun K=>AE ⟨s_t,s_z rfl (by dsimp only;rw[<- hsn];exact(cx2 F).1),s_z rfl (by dsimp only;rw[<- hsn];exact(cx2 F).2),s_t,s_t,s_t,s_t,s_t,trivial⟩ ⟨s_b,trivial⟩ ⟨by dsimp only;rw[<- hsn];rfl,trivial⟩)
   ·obtain rfl:k=3:=by
     simp only[Bool.not_eq_false',decide_eq_true_eq]at h2
     exact h2
    try refine A1 ?_
    refine A0 (A3 rfl rfl rfl (AQ rfl (kn rfl) off_49_0) (A3 rfl rfl rfl (AP rfl (kn rfl) rfl rfl one_3) (A3 rfl rfl rfl (A4 rfl (kn rfl) (kn rfl) I6) .nil))) ?_
    try refine A1 ?_
    refine G8 ?_
    try refine A1 ?_
    refine A0 (A5 rfl rfl rfl rfl rfl (A3 rfl rfl rfl (A4 rfl (kn rfl) (kn rfl) (A9 (by first | omega | (dsimp only;omega)))) (A7 rfl rfl rfl rfl rfl .nil))) ?_
    try refine A1 ?_
    refine A0 (A5 rfl rfl rfl rfl rfl (A3 rfl rfl rfl (A4 rfl (kn rfl) (kn rfl) (A9 (by first | omega | (dsimp only;omega)))) (A7 rfl rfl rfl rfl rfl .nil))) ?_
    try refine A1 ?_
    refine AF ⟨j+1,by omega⟩ (by dsimp only;omega) (fun K=>AE ⟨s_t,s_z rfl (by dsimp only;rw[<- hsn];exact(cx3 F).1),s_z rfl (by dsimp only;rw[<- hsn];exact(cx3 F).2),s_t,s_t,s_t,s_t,s_t,trivial⟩ ⟨s_b,trivial⟩ ⟨by dsimp only;rw[<- hsn];rfl,trivial⟩)
  obtain rfl:j=c.toNat:=by have:=of_decide_eq_false h1;omega
  rw[<- hnext]at hF
  subst hF
  try refine A1 ?_
  refine A0 (A3 rfl rfl rfl (A4 rfl (kn rfl) (kn rfl) (A9 (by first | omega | (dsimp only;omega)))) (A5 rfl rfl rfl rfl rfl .nil)) ?_
  try refine A1 ?_
  refine AF ⟨i+1,hlt⟩ (by dsimp only;omega) (fun K=>AE ⟨s_t,s_t,s_t,s_t,s_t,s_t,trivial⟩ trivial ⟨rfl,trivial⟩)
 rw[List.take_of_length_le (ltf h)]
 try refine A1 ?_
 refine AL 6 1000 rfl rfl rfl ?_
 refine A0 (A5 rfl rfl rfl rfl rfl (A7 rfl rfl rfl rfl rfl .nil)) ?_
 try refine A1 ?_
 exact AM rfl rfl (.tmp (kn rfl) (.nil)) (Imp.refl _) rfl
theorem JA(a b:List Tx)(ha:a.length<=100)(hb:b.length<=100):EF Try.prog [] 6 [.one (txD a),.one (txD b)] (.part (.one (H9 (BQ (stA (nA a) (nB a b)))))):=by
 have hn:EF Try.prog [] 10 [.one (HA [a,b])] (.part (.one (NB [C6 [] a,C6 (BE [] a) b]))):=RS [a,b] (SK (by omega) (by omega))
 have hal:=N7 (nA a) (nB a b) (by rw[FQ];omega) (by rw[FW];omega)
 have hok:=OA (a:=nA a) (b:=nB a b) (by rw[FQ];omega) (by rw[FW];omega)
 rw[<- ON]
 rw[show zsD (nA a)=nsD (C6 [] a) from(LK _).symm,show zsD (nB a b)=nsD (C6 (BE [] a) b) from(LK _).symm]at hal
 generalize BC (nA a) (nB a b)=sl at hal hok ⊢
 have htd:=PB (B2 sl) hok.1 hok.2.1
 have ho:=hok.2.2
 generalize FI (B2 sl)=rs at htd ho ⊢
 have hst:=KF rs ho
 refine AU 19 Try.func6 rfl rfl rfl fun w D=>?_
 try refine A1 ?_
 refine A0 (A7 rfl rfl rfl rfl rfl .nil) ?_
 try refine A1 ?_
 refine A0 (A5 rfl rfl rfl rfl rfl (A5 rfl rfl rfl rfl rfl (A3 rfl rfl rfl (AD (ds:=[_,_]) [(0,_),(1,_)] rfl ⟨rfl,(kn rfl),⟨rfl,(kn rfl),trivial⟩⟩ rfl sl_43 sz_22 zr_22 (fun w D=>.cons (.cell _) (.cons (.cell _) (.nil _ _))) rfl rfl rfl rfl rfl) (A3 rfl rfl rfl (B6 rfl (by kernel_rfl) (hn) ⟨(kn rfl),trivial⟩) (A7 rfl rfl rfl rfl rfl .nil))))) ?_
 try refine A1 ?_
 refine C2 BP (by kernel_rfl) (A5 rfl rfl rfl rfl rfl (A3 rfl rfl rfl (AH rfl (kn rfl) (kn rfl) (by omega) (g0 _ _) E3 sle_35 esz_35 rfl) (A3 rfl rfl rfl (A8 rfl (kn rfl) one_41) (A5 rfl rfl rfl rfl rfl (A3 rfl rfl rfl (AH rfl (kn rfl) (kn rfl) (by omega) (g1 _ _) E3 sle_35 esz_35 rfl) (A3 rfl rfl rfl (A8 rfl (kn rfl) one_41) (A3 rfl rfl rfl (B6 rfl (by kernel_rfl) (hal) ⟨(kn rfl),⟨(kn rfl),trivial⟩⟩) (A3 rfl rfl rfl (B6 rfl (by kernel_rfl) (htd) ⟨(kn rfl),trivial⟩) (A3 rfl rfl rfl (B6 rfl (by kernel_rfl) (hst) ⟨(kn rfl),trivial⟩) (A7 rfl rfl rfl rfl rfl .nil)))))))))) ?_
 try refine A1 ?_
 exact AM rfl rfl (.tmp (kn rfl) (.nil)) (Imp.refl _) rfl
def kpt(l:List Sp):Nat:=l.countP fun p=>decide (p.1=1)||decide (p.1=2)
theorem NV{l:List Sp}{i:Nat}{p:Sp}(h:l[i]?=some p):kpt (l.take (i+1))=kpt (l.take i)+if(decide (p.1=1)||decide (p.1=2))=true then 1 else 0:=by
 rw[List.take_add_one,h]
 unfold kpt
 rw[List.countP_append]
 congr 1
 show List.countP _ [p]=_
 rw[List.countP_cons,List.countP_nil,Nat.zero_add]
theorem RD(l:List Sp):kpt l<=l.length:=List.countP_le_length
theorem LX(l:List Sp)(hl:l.length<=1000000):EF Try.prog [] 9 [.one (H9 l)] (.part (zP (kpt l:Int))):=by
 refine AU 24 Try.func9 rfl rfl rfl fun w D=>?_
 try refine A1 ?_
 refine A0 (A7 rfl rfl rfl rfl rfl .nil) ?_
 try refine A1 ?_
 refine A0 (A7 rfl rfl rfl rfl rfl .nil) ?_
 try refine A1 ?_
 refine A0 (A5 rfl rfl rfl rfl rfl (A3 rfl rfl rfl (AO rfl (kn rfl) sle_25) (A5 rfl rfl rfl rfl rfl .nil))) ?_
 try refine A1 ?_
 refine B7 (ι:={ i:Nat // i<=l.length })
  (fun i=>[(3,zI (kpt (l.take i.1):Int)),(6,.part (.one (H9 l))),(7,zI (l.length:Int)),(8,zI (i.1:Int))])
  (fun _=>[]) (fun _=>[]) (fun i=>l.length-i.1) ⟨0,Nat.zero_le _⟩
  (fun K=>AE ⟨s_t,s_t,s_t,s_t,trivial⟩ trivial trivial) ?_
 rintro⟨i,hi⟩
 dsimp only at hi ⊢
 have hle:=RD (l.take i)
 rw[List.length_take]at hle
 try refine A1 ?_
 refine A0 (A3 rfl rfl rfl (A4 rfl (kn rfl) (kn rfl) B9) .nil) ?_
 try refine A1 ?_
 refine AC rfl (fun h=>?_) (fun h=>?_)
 ·have hlt:=ltd h
  obtain⟨⟨k,x,y⟩,hp⟩:∃ p,l[i]?=some p:=⟨_,List.getElem?_eq_getElem hlt⟩
  have hst:=NV hp
  try refine A1 ?_
  refine AG ?_
  refine AJ (AH rfl (kn rfl) (kn rfl) (by omega) hp F1 sle_25 esz_25 rfl) ?_
  refine AJ (BK rfl (kn rfl) agg_31 sz_31) ?_
  refine DM 5 [.is (.int .i64 0),.is (.int .i64 0),.is (.int .i64 0)] rfl rfl rfl rfl zr_31 (fun w D M V=>⟨rfl,fun j x v h1 h2=>DE _ h1 h2 rfl⟩) rfl rfl rfl rfl ?_
  refine CS rfl rfl rfl (kn rfl) rfl (kn rfl) rfl rfl sz_31 ?_
  refine AA ?_
  try refine A1 ?_
  refine A0 (A3 rfl rfl rfl (AQ rfl (kn rfl) off_31_0) (A3 rfl rfl rfl (AP rfl (kn rfl) rfl rfl one_3) (A3 rfl rfl rfl (A4 rfl (kn rfl) (kn rfl) B4) (A5 rfl rfl rfl rfl rfl (Walk.gd _ rfl rfl rfl (fun h=>AQ rfl (kn rfl) off_31_0) (Walk.gd _ rfl rfl rfl (fun h=>AP rfl (A2 rfl h) rfl rfl one_3) (Walk.gd _ rfl rfl rfl (fun h=>A4 rfl (A2 rfl h) (kn rfl) B4) (A3 rfl rfl rfl (IK rfl (kn rfl) (fun hb=>A2 rfl hb)) .nil)))))))) ?_
  try refine A1 ?_
  refine AC rfl (fun h1=>?_) (fun h1=>?_)
  ·rw[if_pos h1]at hst
   try refine A1 ?_
   refine A0 (A5 rfl rfl rfl rfl rfl (A3 rfl rfl rfl (A4 rfl (kn rfl) (kn rfl) (A9 (by first | omega | (dsimp only;omega)))) (A7 rfl rfl rfl rfl rfl .nil))) ?_
   try refine A1 ?_
   refine A0 (A3 rfl rfl rfl (A4 rfl (kn rfl) (kn rfl) (A9 (by first | omega | (dsimp only;omega)))) (A5 rfl rfl rfl rfl rfl .nil)) ?_
   try refine A1 ?_
   refine AF ⟨i+1,hlt⟩ (by dsimp only;omega) (fun K=>AE ⟨s_z rfl (by dsimp only;rw[hst];rfl),s_t,s_t,s_t,trivial⟩ trivial trivial)
  ·rw[if_neg (by rw[h1];decide)]at hst
   try refine A1 ?_
   refine A0 (A3 rfl rfl rfl (A4 rfl (kn rfl) (kn rfl) (A9 (by first | omega | (dsimp only;omega)))) (A5 rfl rfl rfl rfl rfl .nil)) ?_
   try refine A1 ?_
   refine AF ⟨i+1,hlt⟩ (by dsimp only;omega) (fun K=>AE ⟨s_z rfl (by dsimp only;rw[hst];rfl),s_t,s_t,s_t,trivial⟩ trivial trivial)
 rw[List.take_of_length_le (ltf h)]
 try refine A1 ?_
 refine A0 (A5 rfl rfl rfl rfl rfl (A7 rfl rfl rfl rfl rfl .nil)) ?_
 try refine A1 ?_
 exact AM rfl rfl (.tmp (kn rfl) (.nil)) (Imp.refl _) rfl
theorem O0(b:List Int):edL [] b=b.length:=C1 _
theorem NY(a:List Int):edL a []=a.length:=CH _
theorem N3{a b:List Int}(h:edL a b<=400):BC a b=stL a b:=if_neg (by omega)
theorem Q7{l:List Int}{i:Nat}{z:Int}(h:l[i]?=some z):nK (l.take (i+1))=nK (l.take i)+if z=1 then 1 else 0:=by
 rw[List.take_add_one,h]
 show nK (l.take i++[z])=_
 rw[I4]
 congr 1
 rw[EB]
 simp[nK]
theorem SI(l:List Int):nK l<=l.length:=List.countP_le_length
theorem RT(a b:List Int):edL a b<=a.length+b.length:=(NF _ _).2.2
theorem J6{l:List Tx}{m n:Nat}(h:I5 l m n=false):l.length<=m:=by
 unfold I5 at h
 simp only[Bool.or_eq_false_iff,decide_eq_false_iff_not]at h
 omega
end Go.Proofs.Ytmhhdoaiccahaaa
