/- Part 13. Conditions: as each theorem says. -/
import Derived.Test.YtmhhdoaiccahaaaAT12
import Derived.Test.YtmhhdoaiccahaaaProg
set_option maxRecDepth 100000
namespace Go.Proofs.Ytmhhdoaiccahaaa
open Go.RowKit
abbrev zC(z:Int):Dat:=.cell (.int .i64 z)
abbrev zP(z:Int):Part:=.one (zC z)
abbrev bP(b:Bool):Part:=.one (.cell (.bool b))
theorem IA{a b:Bool}(h:a=b):Imp (.part (bP a)) (.part (bP b)):=Imp.of_eq (by rw[h])
theorem JK{a b:Int}(h:a=b):Imp (.part (zP a)) (.part (zP b)):=Imp.of_eq (by rw[h])
abbrev zI(z:Int):IV:=.is (.int .i64 z)
def zD1(z:Int):List Dat:=[zC z]
theorem AS(z:Int):(zD1 z).length=1:=rfl
theorem s_z{T:TL}{t:Nat}{m n:Int}(h:lk t T=some (zI n))(e:n=m):∃ z,lk t T=some z/\Imp z (zI m):=by subst e;exact⟨_,h,Imp.refl _⟩
abbrev zsD(l:List Int):Dat:=.row 1 l.length (l.flatMap zD1)
def M3(l:List Int):List Dat:=[zsD l]
theorem D7(l:List Int):(M3 l).length=1:=rfl
abbrev ER(L:List (List Int)):Dat:=.row 1 L.length (L.flatMap M3)
abbrev JB:Dat:=.cell (.slice none 0 0)
theorem FS{α:Type}{f:α->List Dat}{g:α->Dat}(hf:∀ a,f a=[g a])(l:List α):l.flatMap f=l.map g:=by
 induction l with
 | nil=>rfl
 | cons x l ih=>rw[List.flatMap_cons,hf,ih];rfl
theorem CW{α:Type}(f:Nat->α){n i:Nat}(h:i<n):((List.range n).map f)[i]?=some (f i):=by
 rw[List.getElem?_map,List.getElem?_range h]
 rfl
theorem QN{α:Type}(f:Nat->α)(n:Nat):((List.range n).map f).length=n:=by simp
theorem IW{α:Type}(f g:Nat->α){n i:Nat}(h:∀ j,j<n->j≠i->f j=g j):((List.range n).map f).set i (g i)=(List.range n).map g:=by
 apply List.ext_getElem?
 intro j
 rw[List.getElem?_set]
 rcases Nat.lt_or_ge j n with hj | hj
 ·rw[CW g hj]
  by_cases e:i=j
  ·subst e
   rw[if_pos rfl,if_pos (by simpa using hj)]
  ·rw[if_neg e,CW f hj,h j hj (Ne.symm e)]
 ·rw[List.getElem?_eq_none (l:=(List.range n).map g) (by simpa using hj)]
  split
  ·rename_i e
   rw[if_neg (by rw[QN];omega)]
  ·exact List.getElem?_eq_none (by simpa using hj)
def dA(a b:List Int)(x y:Nat):Nat:=ed (sm a b) (a.length-x) (b.length-y)
theorem RH(a b:List Int)(y:Nat):dA a b a.length y=b.length-y:=by unfold dA;rw[Nat.sub_self,C1]
theorem QH(a b:List Int)(x:Nat):dA a b x b.length=a.length-x:=by unfold dA;rw[Nat.sub_self,CH]
theorem QZ(a b:List Int)(x y:Nat):dA a b x y<=a.length+b.length:=by
 have:=NF (s:=sm a b) (a.length-x) (b.length-y)
 unfold dA
 omega
theorem QQ{a b:List Int}{x y:Nat}{p q:Int}(hp:a[x]?=some p)(hq:b[y]?=some q):dA a b x y=if p=q then dA a b (x+1) (y+1)else 1+min (dA a b (x+1) y) (dA a b x (y+1)):=by
 have hx:x<a.length:=(List.getElem?_eq_some_iff.1 hp).1
 have hy:y<b.length:=(List.getElem?_eq_some_iff.1 hq).1
 have h:=G9 hp hq
 unfold dA
 rw[show a.length-x=(a.length-1-x)+1 by omega,show b.length-y=(b.length-1-y)+1 by omega,I9,h,show a.length-(x+1)=a.length-1-x by omega,show b.length-(y+1)=b.length-1-y by omega]
 by_cases e:p=q<;>simp[e]
def tbR(a b:List Int)(x:Nat):List Int:=(List.range (b.length+1)).map fun y=>(dA a b x y:Int)
def tbL(a b:List Int):List (List Int):=(List.range (a.length+1)).map (tbR a b)
def DS(a b:List Int)(x n:Nat):List Dat:=(List.range (b.length+1)).map fun j=>if n<=j then zC (dA a b x j:Int)else zC 0
def CY(a b:List Int)(m:Nat):List Dat:=(List.range (a.length+1)).map fun j=>if m<=j then zsD (tbR a b j)else JB
theorem F7(a b:List Int)(x n:Nat):(DS a b x n).length=b.length+1:=by simp[DS]
theorem OO(a b:List Int)(m:Nat):(CY a b m).length=a.length+1:=by simp[CY]
theorem PS(a b:List Int)(x:Nat):(tbR a b x).length=b.length+1:=by simp[tbR]
theorem PH(a b:List Int):(tbL a b).length=a.length+1:=by simp[tbL]
theorem EE(a b:List Int)(x:Nat){y:Nat}(h:y<=b.length):(tbR a b x)[y]?=some (dA a b x y:Int):=CW _ (by omega)
theorem F6(a b:List Int){x:Nat}(h:x<=a.length):(tbL a b)[x]?=some (tbR a b x):=CW _ (by omega)
theorem OW(a b:List Int){x n j:Nat}(h:n<=j)(hj:j<=b.length):(DS a b x n)[j]?=some (zC (dA a b x j:Int)):=by
 unfold DS
 rw[CW _ (by omega),if_pos h]
theorem OQ(a b:List Int)(x y:Nat):(DS a b x (y+1)).set y (zC (dA a b x y:Int))=DS a b x y:=by
 have:=IW (n:=b.length+1) (i:=y) (fun j=>if y+1<=j then zC (dA a b x j:Int)else zC 0) (fun j=>if y<=j then zC (dA a b x j:Int)else zC 0) fun j _ hn=>by
  by_cases h:y<=j
  ·simp only[if_pos h,if_pos (show y+1<=j by omega)]
  ·simp only[if_neg h,if_neg (show ¬ y+1<=j by omega)]
 simpa[DS]using this
theorem OV(a b:List Int)(x:Nat):(CY a b (x+1)).set x (zsD (tbR a b x))=CY a b x:=by
 have:=IW (n:=a.length+1) (i:=x) (fun j=>if x+1<=j then zsD (tbR a b j)else JB) (fun j=>if x<=j then zsD (tbR a b j)else JB) fun j _ hn=>by
  by_cases h:x<=j
  ·simp only[if_pos h,if_pos (show x+1<=j by omega)]
  ·simp only[if_neg h,if_neg (show ¬ x+1<=j by omega)]
 simpa[CY]using this
theorem NR(a b:List Int){m j:Nat}(h:m<=j)(hj:j<=a.length):(CY a b m)[j]?=some (zsD (tbR a b j)):=by
 unfold CY
 rw[CW _ (by omega),if_pos h]
theorem M5(a b:List Int)(x:Nat):Dat.row 1 (b.length+1) (DS a b x 0)=zsD (tbR a b x):=by
 unfold zsD
 rw[PS,FS (f:=zD1) (g:=zC) (fun _=>rfl)]
 simp[DS,tbR]
theorem MY(a b:List Int):Dat.row 1 (a.length+1) (CY a b 0)=ER (tbL a b):=by
 unfold ER
 rw[PH,FS (f:=M3) (g:=zsD) (fun _=>rfl)]
 simp[CY,tbL]
theorem MG(a b:List Int)(x:Nat):(List.replicate (b.length+1) [Value.int .i64 0]).flatten.map Dat.cell=DS a b x (b.length+1):=by
 have h:DS a b x (b.length+1)=(List.range (b.length+1)).map fun _=>zC 0:=by
  unfold DS
  refine List.map_congr_left fun j hj=>if_neg ?_
  have:=List.mem_range.1 hj
  omega
 rw[h,List.map_const']
 simp
theorem MP(a b:List Int):(List.replicate (a.length+1) [Value.slice none 0 0]).flatten.map Dat.cell=CY a b (a.length+1):=by
 have h:CY a b (a.length+1)=(List.range (a.length+1)).map fun _=>JB:=by
  unfold CY
  refine List.map_congr_left fun j hj=>if_neg ?_
  have:=List.mem_range.1 hj
  omega
 rw[h,List.map_const']
 simp
theorem sAt{α:Type}{l:List α}{i:Nat}{x:α}(h:i<l.length):(l.set i x)[i]?=some x:=by simp[h]
theorem T3{α:Type}{l:List α}{i j:Nat}{x:α}(h:i≠j):(l.set i x)[j]?=l[j]?:=by simp[h]
set_option maxHeartbeats 4000000 in
theorem JS(a b:List Int)(ha:a.length<=1000000)(hb:b.length<=1000000):EF Try.prog [] 24 [.one (zsD a),.one (zsD b)] (.part (.one (ER (tbL a b)))):=by
 refine AU 135 Try.func24 rfl rfl rfl fun w D=>?_
 try refine A1 ?_
 refine A0 (A7 rfl rfl rfl rfl rfl .nil) ?_
 try refine A1 ?_
 refine AG ?_
 refine AI ?_
 refine AJ (AO rfl (kn rfl) sle_41) ?_
 refine AJ (A4 rfl (kn rfl) (kn rfl) (A9 (by first | omega | (dsimp only;omega)))) ?_
 rw[show((a.length:Int)+1)=((a.length+1:Nat):Int) from rfl]
 refine OC 1000 rfl rfl rfl rfl (kn rfl) (kn rfl) sl_35 ap_35 zr_41 (by omega) (by omega) (MP a b) rfl rfl ?_
 refine B5 ?_
 refine AA ?_
 try refine A1 ?_
 refine A0 (A5 rfl rfl rfl rfl rfl (A3 rfl rfl rfl (AO rfl (kn rfl) sle_41) (A7 rfl rfl rfl rfl rfl .nil))) ?_
 try refine A1 ?_
 refine B7 (ι:={ m:Nat // m<=a.length+1 })
  (fun m=>[(0,.part (.one (zsD a))),(1,.part (.one (zsD b))),(5,.own 1000),(6,zI ((m.1:Int)-1))])
  (fun _=>[]) (fun m=>[(1000,⟨41,1,a.length+1,CY a b m.1,false⟩)]) (fun m=>m.1) ⟨a.length+1,Nat.le_refl _⟩
  (fun K=>AE ⟨s_t,s_t,s_t,s_z rfl (by dsimp only;omega),trivial⟩ trivial ⟨rfl,trivial⟩) ?_
 rintro⟨m,hm⟩
 dsimp only at hm ⊢
 try refine A1 ?_
 refine A0 (A5 rfl rfl rfl rfl rfl (A3 rfl rfl rfl (A4 rfl (kn rfl) (kn rfl) EK) .nil)) ?_
 try refine A1 ?_
 refine AC rfl (fun h=>?_) (fun h=>?_)
 ·obtain⟨x,rfl⟩:∃ x,m=x+1:=⟨m-1,by have:=of_decide_eq_true h;omega⟩
  rw[show(((x+1:Nat):Int)-1)=(x:Int) by omega]
  have hol:=OO a b (x+1)
  try refine A1 ?_
  refine AG ?_
  refine AI ?_
  refine AI ?_
  refine AI ?_
  refine AJ (AO rfl (kn rfl) sle_41) ?_
  refine AJ (A4 rfl (kn rfl) (kn rfl) (A9 (by first | omega | (dsimp only;omega)))) ?_
  rw[show((b.length:Int)+1)=((b.length+1:Nat):Int) from rfl]
  refine OC 1001 rfl rfl rfl rfl (kn rfl) (kn rfl) sl_41 ap_41 zr_3 (by omega) (by omega) (MG a b x) rfl rfl ?_
  refine JJ (t:=23) rfl rfl rfl fun v1 hv1=>?_
  refine DB 9001 (t:=23) rfl ?_
  refine GY 23 rfl (IP _ _) ?_
  refine AJ (AK rfl (kn rfl) rfl (kn rfl) ⟨by omega,by omega⟩ sle_35 esz_35) ?_
  refine B8 (ds':=(CY a b (x+1)).set x (.cell v1)) rfl rfl rfl (kn rfl) rfl (kn rfl) hv1 (by rw[hol];omega) sz_41 (by simp) ?_ rfl
  refine AA ?_
  try refine A1 ?_
  refine A0 (A5 rfl rfl rfl rfl rfl (A3 rfl rfl rfl (AO rfl (kn rfl) sle_41) (A7 rfl rfl rfl rfl rfl .nil))) ?_
  try refine A1 ?_
  have hget:=sAt (l:=CY a b (x+1)) (x:=Dat.cell v1) (i:=x) (by omega)
  have hnext:x+1<=a.length->((CY a b (x+1)).set x (Dat.cell v1))[x+1]?=some (zsD (tbR a b (x+1))):=fun h=>by rw[T3 (by omega)];exact NR a b (Nat.le_refl _) h
  have hset:((CY a b (x+1)).set x (Dat.cell v1)).set x (zsD (tbR a b x))=CY a b x:=by rw[List.set_set];exact OV a b x
  generalize(CY a b (x+1)).set x (Dat.cell v1)=ow at hget hnext hset ⊢
  refine B7 (ι:={ n:Nat // n<=b.length+1 })
   (fun n=>[(9001,ET 1001 v1),(0,.part (.one (zsD a))),(1,.part (.one (zsD b))),(5,.own 1000),(6,zI (x:Int)),(7,zI ((n.1:Int)-1))])
   (fun _=>[]) (fun n=>[(1000,⟨41,1,a.length+1,ow,false⟩),(1001,⟨3,1,b.length+1,DS a b x n.1,false⟩)]) (fun n=>n.1) ⟨b.length+1,Nat.le_refl _⟩
   (fun K=>AE ⟨s_t,s_t,s_t,s_t,s_t,s_z rfl (by dsimp only;omega),trivial⟩ trivial ⟨rfl,rfl,trivial⟩) ?_
  rintro⟨n,hn⟩
  dsimp only at hn ⊢
  try refine A1 ?_
  refine A0 (A5 rfl rfl rfl rfl rfl (A3 rfl rfl rfl (A4 rfl (kn rfl) (kn rfl) EK) .nil)) ?_
  try refine A1 ?_
  refine AC rfl (fun h=>?_) (fun h=>?_)
  ·obtain⟨y,rfl⟩:∃ y,n=y+1:=⟨n-1,by have:=of_decide_eq_true h;omega⟩
   rw[show(((y+1:Nat):Int)-1)=(y:Int) by omega]
   have hrl:=F7 a b x (y+1)
   have hrs:=OQ a b x y
   try refine A1 ?_
   refine A0 (A5 rfl rfl rfl rfl rfl (A5 rfl rfl rfl rfl rfl (A3 rfl rfl rfl (AO rfl (kn rfl) sle_41) (A3 rfl rfl rfl (A4 rfl (kn rfl) (kn rfl) B4) (A7 rfl rfl rfl rfl rfl .nil))))) ?_
   try refine A1 ?_
   refine AC rfl (fun h1=>?_) (fun h1=>?_)
   ·have ex:x=a.length:=by have:=of_decide_eq_true h1;omega
    have hval:((b.length:Int)-(y:Int))=(dA a b x y:Int):=by rw[ex,RH];omega
    try refine A1 ?_
    refine AG ?_
    refine AI ?_
    refine AI ?_
    refine AJ (AK rfl (kn rfl) rfl (kn rfl) ⟨by omega,by omega⟩ sle_35 esz_35) ?_
    refine AJ (AT rfl (kn rfl) rfl (by simpa using hget) one_41) ?_
    refine AI ?_
    refine AI ?_
    refine AJ (AO rfl (kn rfl) sle_41) ?_
    refine AI ?_
    refine AJ (A4 rfl (kn rfl) (kn rfl) (AN (by first | omega | (dsimp only;omega)))) ?_
    refine IJ (t:=54) (s:=9001) rfl rfl ?_
    refine AJ (AK rfl (FV (kn rfl) (GK _ _)) rfl (kn rfl) ⟨by omega,by omega⟩ sle_41 esz_41) ?_
    refine B8 (ds':=DS a b x y) rfl rfl rfl (kn rfl) rfl (kn rfl) rfl (by rw[hrl];omega) sz_3 (by rw[show((y:Int).toNat*1)=y by omega,hval];exact hrs) ?_ rfl
    refine AA ?_
    try refine A1 ?_
    refine A0 (A5 rfl rfl rfl rfl rfl (A3 rfl rfl rfl (A4 rfl (kn rfl) (kn rfl) (AN (by first | omega | (dsimp only;omega)))) (A7 rfl rfl rfl rfl rfl .nil))) ?_
    try refine A1 ?_
    refine AF ⟨y,by omega⟩ (by dsimp only;omega) (fun K=>AE ⟨s_t,s_t,s_t,s_t,s_t,s_z rfl (by first | rfl | omega),trivial⟩ trivial ⟨rfl,rfl,trivial⟩)
   have hxa:x<a.length:=by have:=of_decide_eq_false h1;omega
   obtain⟨p,hp⟩:∃ p,a[x]?=some p:=⟨_,List.getElem?_eq_getElem hxa⟩
   have hnx:=hnext (by omega)
   try refine A1 ?_
   refine A0 (A5 rfl rfl rfl rfl rfl (A5 rfl rfl rfl rfl rfl (A3 rfl rfl rfl (AO rfl (kn rfl) sle_41) (A3 rfl rfl rfl (A4 rfl (kn rfl) (kn rfl) B4) (A7 rfl rfl rfl rfl rfl .nil))))) ?_
   try refine A1 ?_
   refine AC rfl (fun h2=>?_) (fun h2=>?_)
   ·have ey:y=b.length:=by have:=of_decide_eq_true h2;omega
    have hval:((a.length:Int)-(x:Int))=(dA a b x y:Int):=by rw[ey,QH];omega
    try refine A1 ?_
    refine AG ?_
    refine AI ?_
    refine AI ?_
    refine AJ (AK rfl (kn rfl) rfl (kn rfl) ⟨by omega,by omega⟩ sle_35 esz_35) ?_
    refine AJ (AT rfl (kn rfl) rfl (by simpa using hget) one_41) ?_
    refine AI ?_
    refine AI ?_
    refine AJ (AO rfl (kn rfl) sle_41) ?_
    refine AI ?_
    refine AJ (A4 rfl (kn rfl) (kn rfl) (AN (by first | omega | (dsimp only;omega)))) ?_
    refine IJ (t:=69) (s:=9001) rfl rfl ?_
    refine AJ (AK rfl (FV (kn rfl) (GK _ _)) rfl (kn rfl) ⟨by omega,by omega⟩ sle_41 esz_41) ?_
    refine B8 (ds':=DS a b x y) rfl rfl rfl (kn rfl) rfl (kn rfl) rfl (by rw[hrl];omega) sz_3 (by rw[show((y:Int).toNat*1)=y by omega,hval];exact hrs) ?_ rfl
    refine AA ?_
    try refine A1 ?_
    refine A0 (A5 rfl rfl rfl rfl rfl (A3 rfl rfl rfl (A4 rfl (kn rfl) (kn rfl) (AN (by first | omega | (dsimp only;omega)))) (A7 rfl rfl rfl rfl rfl .nil))) ?_
    try refine A1 ?_
    refine AF ⟨y,by omega⟩ (by dsimp only;omega) (fun K=>AE ⟨s_t,s_t,s_t,s_t,s_t,s_z rfl (by first | rfl | omega),trivial⟩ trivial ⟨rfl,rfl,trivial⟩)
   have hyb:y<b.length:=by have:=of_decide_eq_false h2;omega
   obtain⟨q,hq⟩:∃ q,b[y]?=some q:=⟨_,List.getElem?_eq_getElem hyb⟩
   have hat:=QQ hp hq
   have hly:=OW a b (x:=x) (n:=y+1) (j:=y+1) (Nat.le_refl _) (by omega)
   have hny:=EE a b (x+1) (y:=y) (by omega)
   have hny1:=EE a b (x+1) (y:=y+1) (by omega)
   have hd1:=QZ a b (x+1) y
   have hd2:=QZ a b x (y+1)
   try refine A1 ?_
   refine C2 BP (by kernel_rfl) (A5 rfl rfl rfl rfl rfl (A5 rfl rfl rfl rfl rfl (A3 rfl rfl rfl (AH rfl (kn rfl) (kn rfl) (by omega) hp AS sle_41 esz_41 rfl) (A3 rfl rfl rfl (A8 rfl (kn rfl) one_3) (A5 rfl rfl rfl rfl rfl (A5 rfl rfl rfl rfl rfl (A3 rfl rfl rfl (AH rfl (kn rfl) (kn rfl) (by omega) hq AS sle_41 esz_41 rfl) (A3 rfl rfl rfl (A8 rfl (kn rfl) one_3) (A3 rfl rfl rfl (A4 rfl (kn rfl) (kn rfl) B4) (A7 rfl rfl rfl rfl rfl .nil)))))))))) ?_
   try refine A1 ?_
   refine AC rfl (fun h3=>?_) (fun h3=>?_)
   ·have hval:(dA a b (x+1) (y+1):Int)=(dA a b x y:Int):=by rw[hat,if_pos (of_decide_eq_true h3)]
    try refine A1 ?_
    refine D9 [(9001,1001,v1)] 14 ⟨rfl,trivial⟩ BP (by kernel_rfl) (AX rfl rfl rfl (A6 rfl (kn rfl)) (AX rfl rfl rfl (A6 rfl (kn rfl)) (AX rfl rfl rfl (AK rfl (kn rfl) rfl (kn rfl) ⟨by omega,by omega⟩ sle_35 esz_35) (WalkV.op rfl rfl rfl (HG (AT rfl (kn rfl) rfl (by simpa using hget) one_41) (fun _ h=>h.1) rfl) (AX rfl rfl rfl (A6 rfl (kn rfl)) (AX rfl rfl rfl (A6 rfl (kn rfl)) (AX rfl rfl rfl (A6 rfl (kn rfl)) (AX rfl rfl rfl (A4 rfl (kn rfl) (kn rfl) (A9 (by first | omega | (dsimp only;omega)))) (AX rfl rfl rfl (AK (z:=((x+1:Nat):Int)) rfl (kn rfl) rfl (kn rfl) ⟨by omega,by omega⟩ sle_35 esz_35) (AX rfl rfl rfl (AT rfl (kn rfl) rfl (by simpa using hnx) one_41) (AX rfl rfl rfl (A6 rfl (kn rfl)) (AX rfl rfl rfl (A4 rfl (kn rfl) (kn rfl) (A9 (by first | omega | (dsimp only;omega)))) (AX rfl rfl rfl (AH rfl (kn rfl) (kn rfl) (by omega) hny1 AS sle_41 esz_41 rfl) (AX rfl rfl rfl (A8 rfl (kn rfl) one_3) (WalkV.nil))))))))))))))) ?_
    refine AJ (AK rfl (kn rfl) rfl (kn rfl) ⟨by omega,by omega⟩ sle_41 esz_41) ?_
    refine B8 (ds':=DS a b x y) rfl rfl rfl (kn rfl) rfl (kn rfl) rfl (by rw[F7];omega) sz_3 (by rw[show((y:Int).toNat*1)=y by omega,hval];exact hrs) ?_ rfl
    refine AA ?_
    try refine A1 ?_
    refine A0 (A5 rfl rfl rfl rfl rfl (A3 rfl rfl rfl (A4 rfl (kn rfl) (kn rfl) (AN (by first | omega | (dsimp only;omega)))) (A7 rfl rfl rfl rfl rfl .nil))) ?_
    try refine A1 ?_
    refine AF ⟨y,by omega⟩ (by dsimp only;omega) (fun K=>AE ⟨s_t,s_t,s_t,s_t,s_t,s_z rfl (by first | rfl | omega),trivial⟩ trivial ⟨rfl,rfl,trivial⟩)
   rw[if_neg (of_decide_eq_false h3)]at hat
   try refine A1 ?_
   refine QL [(9001,1001,v1)] ⟨rfl,trivial⟩ BP (by kernel_rfl) (AX rfl rfl rfl (A6 rfl (kn rfl)) (AX rfl rfl rfl (A6 rfl (kn rfl)) (AX rfl rfl rfl (A4 rfl (kn rfl) (kn rfl) (A9 (by first | omega | (dsimp only;omega)))) (AX rfl rfl rfl (AK (z:=((x+1:Nat):Int)) rfl (kn rfl) rfl (kn rfl) ⟨by omega,by omega⟩ sle_35 esz_35) (AX rfl rfl rfl (AT rfl (kn rfl) rfl (by simpa using hnx) one_41) (AX rfl rfl rfl (A6 rfl (kn rfl)) (AX rfl rfl rfl (AH rfl (kn rfl) (kn rfl) (by omega) hny AS sle_41 esz_41 rfl) (AX rfl rfl rfl (A8 rfl (kn rfl) one_3) (AX rfl rfl rfl (A6 rfl (kn rfl)) (AX rfl rfl rfl (A6 rfl (kn rfl)) (AX rfl rfl rfl (AK rfl (kn rfl) rfl (kn rfl) ⟨by omega,by omega⟩ sle_35 esz_35) (WalkV.op rfl rfl rfl (HG (AT rfl (kn rfl) rfl (by simpa using hget) one_41) (fun _ h=>h.1) rfl) (AX rfl rfl rfl (A6 rfl (kn rfl)) (AX rfl rfl rfl (A4 rfl (kn rfl) (kn rfl) (A9 (by first | omega | (dsimp only;omega)))) (AX rfl rfl rfl (AK (z:=((y+1:Nat):Int)) rfl (kn rfl) rfl (kn rfl) ⟨by omega,by omega⟩ sle_41 esz_41) (AX rfl rfl rfl (AT rfl (kn rfl) rfl (by simpa using hly) one_3) (AX rfl rfl rfl (A4 rfl (kn rfl) (kn rfl) B9) (AX rfl rfl rfl (H5 rfl (kn rfl)) (WalkV.nil))))))))))))))))))) ?_
   try refine A1 ?_
   refine AC rfl (fun h4=>?_) (fun h4=>?_)
   ·have hlt:dA a b (x+1) y<dA a b x (y+1):=by have:=of_decide_eq_true h4;omega
    have hval:(dA a b (x+1) y:Int)+1=(dA a b x y:Int):=by rw[hat,Nat.min_eq_left (by omega)];omega
    try refine A1 ?_
    refine D9 [(9001,1001,v1)] 14 ⟨rfl,trivial⟩ BP (by kernel_rfl) (AX rfl rfl rfl (A6 rfl (kn rfl)) (AX rfl rfl rfl (A6 rfl (kn rfl)) (AX rfl rfl rfl (AK rfl (kn rfl) rfl (kn rfl) ⟨by omega,by omega⟩ sle_35 esz_35) (WalkV.op rfl rfl rfl (HG (AT rfl (kn rfl) rfl (by simpa using hget) one_41) (fun _ h=>h.1) rfl) (AX rfl rfl rfl (A6 rfl (kn rfl)) (AX rfl rfl rfl (A6 rfl (kn rfl)) (AX rfl rfl rfl (A6 rfl (kn rfl)) (AX rfl rfl rfl (A4 rfl (kn rfl) (kn rfl) (A9 (by first | omega | (dsimp only;omega)))) (AX rfl rfl rfl (AK (z:=((x+1:Nat):Int)) rfl (kn rfl) rfl (kn rfl) ⟨by omega,by omega⟩ sle_35 esz_35) (AX rfl rfl rfl (AT rfl (kn rfl) rfl (by simpa using hnx) one_41) (AX rfl rfl rfl (A6 rfl (kn rfl)) (AX rfl rfl rfl (AH rfl (kn rfl) (kn rfl) (by omega) hny AS sle_41 esz_41 rfl) (AX rfl rfl rfl (A8 rfl (kn rfl) one_3) (AX rfl rfl rfl (A4 rfl (kn rfl) (kn rfl) (A9 (by first | omega | (dsimp only;omega)))) (WalkV.nil))))))))))))))) ?_
    refine AJ (AK rfl (kn rfl) rfl (kn rfl) ⟨by omega,by omega⟩ sle_41 esz_41) ?_
    refine B8 (ds':=DS a b x y) rfl rfl rfl (kn rfl) rfl (kn rfl) rfl (by rw[F7];omega) sz_3 (by rw[show((y:Int).toNat*1)=y by omega,hval];exact hrs) ?_ rfl
    refine AA ?_
    try refine A1 ?_
    refine A0 (A5 rfl rfl rfl rfl rfl (A3 rfl rfl rfl (A4 rfl (kn rfl) (kn rfl) (AN (by first | omega | (dsimp only;omega)))) (A7 rfl rfl rfl rfl rfl .nil))) ?_
    try refine A1 ?_
    refine AF ⟨y,by omega⟩ (by dsimp only;omega) (fun K=>AE ⟨s_t,s_t,s_t,s_t,s_t,s_z rfl (by first | rfl | omega),trivial⟩ trivial ⟨rfl,rfl,trivial⟩)
   have hge:dA a b x (y+1)<=dA a b (x+1) y:=by have:=of_decide_eq_false h4;omega
   have hval:(dA a b x (y+1):Int)+1=(dA a b x y:Int):=by rw[hat,Nat.min_eq_right (by omega)];omega
   try refine A1 ?_
   refine D9 [(9001,1001,v1)] 14 ⟨rfl,trivial⟩ BP (by kernel_rfl) (AX rfl rfl rfl (A6 rfl (kn rfl)) (AX rfl rfl rfl (A6 rfl (kn rfl)) (AX rfl rfl rfl (AK rfl (kn rfl) rfl (kn rfl) ⟨by omega,by omega⟩ sle_35 esz_35) (WalkV.op rfl rfl rfl (HG (AT rfl (kn rfl) rfl (by simpa using hget) one_41) (fun _ h=>h.1) rfl) (AX rfl rfl rfl (A6 rfl (kn rfl)) (AX rfl rfl rfl (A6 rfl (kn rfl)) (AX rfl rfl rfl (A6 rfl (kn rfl)) (AX rfl rfl rfl (AK rfl (kn rfl) rfl (kn rfl) ⟨by omega,by omega⟩ sle_35 esz_35) (WalkV.op rfl rfl rfl (HG (AT rfl (kn rfl) rfl (by simpa using hget) one_41) (fun _ h=>h.1) rfl) (AX rfl rfl rfl (A6 rfl (kn rfl)) (AX rfl rfl rfl (A4 rfl (kn rfl) (kn rfl) (A9 (by first | omega | (dsimp only;omega)))) (AX rfl rfl rfl (AK (z:=((y+1:Nat):Int)) rfl (kn rfl) rfl (kn rfl) ⟨by omega,by omega⟩ sle_41 esz_41) (AX rfl rfl rfl (AT rfl (kn rfl) rfl (by simpa using hly) one_3) (AX rfl rfl rfl (A4 rfl (kn rfl) (kn rfl) (A9 (by first | omega | (dsimp only;omega)))) (WalkV.nil))))))))))))))) ?_
   refine AJ (AK rfl (kn rfl) rfl (kn rfl) ⟨by omega,by omega⟩ sle_41 esz_41) ?_
   refine B8 (ds':=DS a b x y) rfl rfl rfl (kn rfl) rfl (kn rfl) rfl (by rw[F7];omega) sz_3 (by rw[show((y:Int).toNat*1)=y by omega,hval];exact hrs) ?_ rfl
   refine AA ?_
   try refine A1 ?_
   refine A0 (A5 rfl rfl rfl rfl rfl (A3 rfl rfl rfl (A4 rfl (kn rfl) (kn rfl) (AN (by first | omega | (dsimp only;omega)))) (A7 rfl rfl rfl rfl rfl .nil))) ?_
   try refine A1 ?_
   refine AF ⟨y,by omega⟩ (by dsimp only;omega) (fun K=>AE ⟨s_t,s_t,s_t,s_t,s_t,s_z rfl (by first | rfl | omega),trivial⟩ trivial ⟨rfl,rfl,trivial⟩)
  obtain rfl:n=0:=by have:=of_decide_eq_false h;omega
  try refine A1 ?_
  refine JN 1001 rfl rfl ?_
  refine NE x (s:=9001) (r:=1000) (q:=1001) rfl rfl rfl rfl hget (show _=CY a b x by rw[<- hset,<- M5];rfl) ?_
  refine A0 (A5 rfl rfl rfl rfl rfl (A3 rfl rfl rfl (A4 rfl (kn rfl) (kn rfl) (AN (by first | omega | (dsimp only;omega)))) (A7 rfl rfl rfl rfl rfl .nil))) ?_
  try refine A1 ?_
  refine AF ⟨x,by omega⟩ (by dsimp only;omega) (fun K=>AE ⟨s_t,s_t,s_t,s_z rfl (by first | rfl | omega),trivial⟩ trivial ⟨rfl,trivial⟩)
 obtain rfl:m=0:=by have:=of_decide_eq_false h;omega
 try refine A1 ?_
 refine AL 5 1000 rfl rfl rfl ?_
 refine A0 (A5 rfl rfl rfl rfl rfl (A7 rfl rfl rfl rfl rfl .nil)) ?_
 try refine A1 ?_
 exact AM rfl rfl (.tmp (kn rfl) (.nil)) (Imp.of_eq (by show IV.part (.one (.row 1 (a.length+1) (CY a b 0)))=_;rw[MY])) rfl
theorem ltd{m n:Nat}(h:decide ((m:Int)<(n:Int))=true):m<n:=by have:=of_decide_eq_true h;omega
theorem ltf{m n:Nat}(h:decide ((m:Int)<(n:Int))=false):n<=m:=by have:=of_decide_eq_false h;omega
theorem HO(m n:Nat):decide ((m:Int)<(n:Int))=decide (m<n):=decide_eq_decide.2 (by omega)
theorem SD(m n:Nat):decide ((m:Int)<=(n:Int))=decide (m<=n):=decide_eq_decide.2 (by omega)
theorem SB(m n:Nat):decide ((m:Int)=(n:Int))=decide (m=n):=decide_eq_decide.2 (by omega)
theorem RQ{m n:Nat}(h:(!decide ((m:Int)=(n:Int)))=true)(hm:m<=n):m+1<=n:=by
 simp only[Bool.not_eq_true',decide_eq_false_iff_not]at h
 omega
theorem G6(l:List Int)(x:Nat):∃ p,x<l.length->l[x]?=some p:=⟨l.getD x 0,fun h=>by rw[List.getD_eq_getElem?_getD,List.getElem?_eq_getElem h];rfl⟩
theorem CC(l:List Int)(z:Int):l.flatMap zD1++[zC z]=(l++[z]).flatMap zD1:=by simp[zD1]
theorem CD{α:Type}(l:List α)(z:α):l.length+1=(l++[z]).length:=by simp
def sA(a b:List Int)(x y:Nat):List Int:=st (sm a b) (a.length-x) (b.length-y)
theorem NS(a b:List Int):sA a b a.length b.length=[]:=by unfold sA;rw[Nat.sub_self,Nat.sub_self,st_00]
theorem LD{a b:List Int}{x y:Nat}{p:Int}(hp:a[x]?=some p)(hq:b[y]?=some p):sA a b x y=1::sA a b (x+1) (y+1):=by
 have hx:x<a.length:=(List.getElem?_eq_some_iff.1 hp).1
 have hy:y<b.length:=(List.getElem?_eq_some_iff.1 hq).1
 have h:=G9 hp hq
 unfold sA
 rw[show a.length-x=(a.length-1-x)+1 by omega,show b.length-y=(b.length-1-y)+1 by omega,EX,h,show a.length-(x+1)=a.length-1-x by omega,show b.length-(y+1)=b.length-1-y by omega]
 simp
theorem QK{a b:List Int}{x y:Nat}(hx:x<a.length)(hne:∀ p q,a[x]?=some p->b[y]?=some q->p≠q)(h:y=b.length\/dA a b (x+1) y<=dA a b x (y+1))(hy:y<=b.length):sA a b x y=2::sA a b (x+1) y:=by
 obtain⟨p,hp⟩:∃ p,a[x]?=some p:=⟨_,List.getElem?_eq_getElem hx⟩
 unfold sA
 rcases Nat.lt_or_ge y b.length with hy1 | hy1
 ·obtain⟨q,hq⟩:∃ q,b[y]?=some q:=⟨_,List.getElem?_eq_getElem hy1⟩
  have h0:=G9 hp hq
  have h1:dA a b (x+1) y<=dA a b x (y+1):=by
   rcases h with h | h
   ·omega
   ·exact h
  unfold dA at h1
  rw[show a.length-(x+1)=a.length-1-x by omega,show b.length-y=(b.length-1-y)+1 by omega,show a.length-x=(a.length-1-x)+1 by omega,show b.length-(y+1)=b.length-1-y by omega]at h1
  rw[show a.length-x=(a.length-1-x)+1 by omega,show b.length-y=(b.length-1-y)+1 by omega,EX,h0,if_neg (by simpa using hne p q hp hq),if_pos h1,show a.length-(x+1)=a.length-1-x by omega]
 ·rw[show b.length-y=0 by omega,show a.length-x=(a.length-(x+1))+1 by omega,I2]
theorem RJ{a b:List Int}{x y:Nat}(hy:y<b.length)(hne:∀ p q,a[x]?=some p->b[y]?=some q->p≠q)(h:x<a.length->dA a b x (y+1)<dA a b (x+1) y)(hx:x<=a.length):sA a b x y=3::sA a b x (y+1):=by
 obtain⟨q,hq⟩:∃ q,b[y]?=some q:=⟨_,List.getElem?_eq_getElem hy⟩
 unfold sA
 rcases Nat.lt_or_ge x a.length with hx1 | hx1
 ·obtain⟨p,hp⟩:∃ p,a[x]?=some p:=⟨_,List.getElem?_eq_getElem hx1⟩
  have h0:=G9 hp hq
  have h1:=h hx1
  unfold dA at h1
  rw[show a.length-(x+1)=a.length-1-x by omega,show b.length-y=(b.length-1-y)+1 by omega,show a.length-x=(a.length-1-x)+1 by omega,show b.length-(y+1)=b.length-1-y by omega]at h1
  rw[show a.length-x=(a.length-1-x)+1 by omega,show b.length-y=(b.length-1-y)+1 by omega,EX,h0,if_neg (by simpa using hne p q hp hq),if_neg (by omega),show b.length-(y+1)=b.length-1-y by omega]
 ·rw[show a.length-x=0 by omega,show b.length-y=(b.length-(y+1))+1 by omega,st_0n]
set_option maxHeartbeats 2000000 in
theorem KL(a b:List Int)(ha:a.length<=1000000)(hb:b.length<=1000000)(hn:edL a b<=400):EF Try.prog [] 17 [.one (zsD a),.one (zsD b)] (.part (.one (zsD (stL a b)))):=by
 have ht:=JS a b ha hb
 have hlen:=(IY a b).2.2.1
 refine AU 100 Try.func17 rfl rfl rfl fun w D=>?_
 try refine A1 ?_
 refine A0 (A7 rfl rfl rfl rfl rfl .nil) ?_
 try refine A1 ?_
 refine A0 (A5 rfl rfl rfl rfl rfl (A5 rfl rfl rfl rfl rfl (A3 rfl rfl rfl (B6 rfl (by kernel_rfl) (ht) ⟨(kn rfl),⟨(kn rfl),trivial⟩⟩) (A7 rfl rfl rfl rfl rfl .nil)))) ?_
 try refine A1 ?_
 refine AG ?_
 refine C7 1000 rfl rfl rfl rfl sl_41 ap_41 rfl rfl ?_
 refine B5 ?_
 refine AA ?_
 try refine A1 ?_
 refine A0 (A7 rfl rfl rfl rfl rfl (A7 rfl rfl rfl rfl rfl .nil)) ?_
 try refine A1 ?_
 refine A0 (A5 rfl rfl rfl rfl rfl (A3 rfl rfl rfl (AH rfl (kn rfl) (kn rfl) (by omega) (F6 a b (Nat.zero_le _)) D7 sle_35 esz_35 rfl) (A3 rfl rfl rfl (A8 rfl (kn rfl) one_41) (A3 rfl rfl rfl (AH rfl (kn rfl) (kn rfl) (by omega) (EE a b 0 (Nat.zero_le _)) AS sle_41 esz_41 rfl) (A3 rfl rfl rfl (A8 rfl (kn rfl) one_3) (A3 rfl rfl rfl (A4 rfl (kn rfl) (kn rfl) E4) .nil)))))) ?_
 try refine A1 ?_
 refine AC rfl (fun h=>absurd (of_decide_eq_true h) (by show ¬ (400:Int)<(edL a b:Int);omega)) (fun _=>?_)
 try refine A1 ?_
 refine B7 (ι:={ t:List Int×Nat×Nat // t.2.1<=a.length/\t.2.2<=b.length/\stL a b=t.1++sA a b t.2.1 t.2.2 })
  (fun t=>[(0,.part (.one (zsD a))),(1,.part (.one (zsD b))),(5,.part (.one (ER (tbL a b)))),(6,.own 1000),(7,zI (t.1.2.1:Int)),(8,zI (t.1.2.2:Int))])
  (fun _=>[]) (fun t=>[(1000,⟨3,1,t.1.1.length,t.1.1.flatMap zD1,false⟩)]) (fun t=>(a.length-t.1.2.1)+(b.length-t.1.2.2)) ⟨([],0,0),by dsimp only;omega,by dsimp only;omega,rfl⟩
  (fun K=>AE ⟨s_t,s_t,s_t,s_t,s_t,s_t,trivial⟩ trivial ⟨rfl,trivial⟩) ?_
 rintro⟨⟨out,x,y⟩,hx,hy,hs⟩
 dsimp only at hx hy hs ⊢
 have hout:out.length<=2000000:=by
  have:=congrArg List.length hs
  rw[List.length_append]at this
  omega
 obtain⟨p,hp⟩:=G6 a x
 obtain⟨q,hq⟩:=G6 b y
 try refine A1 ?_
 refine A0 (A5 rfl rfl rfl rfl rfl (A5 rfl rfl rfl rfl rfl (A3 rfl rfl rfl (AO rfl (kn rfl) sle_41) (A3 rfl rfl rfl (A4 rfl (kn rfl) (kn rfl) B9) (A5 rfl rfl rfl rfl rfl (Walk.gd _ rfl rfl rfl (fun h=>A6 rfl (kn rfl)) (Walk.gd _ rfl rfl rfl (fun h=>A6 rfl (kn rfl)) (Walk.gd _ rfl rfl rfl (fun h=>AO rfl (A2 rfl h) sle_41) (Walk.gd _ rfl rfl rfl (fun h=>A4 rfl (A2 rfl h) (A2 rfl h) B9) (A3 rfl rfl rfl (IK rfl (kn rfl) (fun hb=>A2 rfl hb)) .nil)))))))))) ?_
 try refine A1 ?_
 refine AC rfl (fun h=>?_) (fun h=>?_)
 ·rw[HO,HO,Bool.or_eq_true,decide_eq_true_eq,decide_eq_true_eq]at h
  try refine A1 ?_
  refine C2 BP (by kernel_rfl) (A5 rfl rfl rfl rfl rfl (A5 rfl rfl rfl rfl rfl (A3 rfl rfl rfl (AO rfl (kn rfl) sle_41) (A3 rfl rfl rfl (A4 rfl (kn rfl) (kn rfl) B9) (A5 rfl rfl rfl rfl rfl (Walk.gd _ rfl rfl rfl (fun h=>A6 rfl (kn rfl)) (Walk.gd _ rfl rfl rfl (fun h=>A6 rfl (kn rfl)) (Walk.gd _ rfl rfl rfl (fun h=>AO rfl (A2 rfl h) sle_41) (Walk.gd _ rfl rfl rfl (fun h=>A4 rfl (A2 rfl h) (A2 rfl h) B9) (A3 rfl rfl rfl (BH rfl (kn rfl) (fun hb=>A2 rfl hb)) (A5 rfl rfl rfl rfl rfl (Walk.gd _ rfl rfl rfl (fun h=>A6 rfl (kn rfl)) (Walk.gd _ rfl rfl rfl (fun h=>A6 rfl (kn rfl)) (Walk.gd _ rfl rfl rfl (fun h=>AH rfl (A2 rfl h) (A2 rfl h) (by omega) (hp (ltd (gl h))) AS sle_41 esz_41 rfl) (Walk.gd _ rfl rfl rfl (fun h=>A8 rfl (A2 rfl h) one_3) (Walk.gd _ rfl rfl rfl (fun h=>A6 rfl (kn rfl)) (Walk.gd _ rfl rfl rfl (fun h=>A6 rfl (kn rfl)) (Walk.gd _ rfl rfl rfl (fun h=>AH rfl (A2 rfl h) (A2 rfl h) (by omega) (hq (ltd (gr h))) AS sle_41 esz_41 rfl) (Walk.gd _ rfl rfl rfl (fun h=>A8 rfl (A2 rfl h) one_3) (Walk.gd _ rfl rfl rfl (fun h=>A4 rfl (A2 rfl h) (A2 rfl h) B4) (A3 rfl rfl rfl (BH rfl (kn rfl) (fun hb=>A2 rfl hb)) .nil))))))))))))))))))))) ?_
  try refine A1 ?_
  refine AC rfl (fun h1=>?_) (fun h1=>?_)
  ·have hxa:=ltd (gl (gl h1))
   have hyb:=ltd (gr (gl h1))
   obtain rfl:=of_decide_eq_true (gr h1)
   have hk:=LD (hp hxa) (hq hyb)
   try refine A1 ?_
   refine AG ?_
   refine AI ?_
   refine AJ (AD (ds:=[_]) [(0,_)] rfl ⟨rfl,(kn rfl),trivial⟩ rfl sl_41 sz_3 zr_3 (fun w D=>.cons (.cell _) (.nil _ _)) rfl rfl rfl rfl rfl) ?_
   refine AW rfl rfl rfl rfl (kn rfl) rfl (kn rfl) sl_41 ap_41 rfl rfl (by omega) (by omega) ?_
   refine BG (CD out 1) (CC out 1) ?_
   refine B5 ?_
   refine AA ?_
   try refine A1 ?_
   refine A0 (A5 rfl rfl rfl rfl rfl (A3 rfl rfl rfl (A4 rfl (kn rfl) (kn rfl) (A9 (by first | omega | (dsimp only;omega)))) (A7 rfl rfl rfl rfl rfl .nil))) ?_
   try refine A1 ?_
   refine A0 (A5 rfl rfl rfl rfl rfl (A3 rfl rfl rfl (A4 rfl (kn rfl) (kn rfl) (A9 (by first | omega | (dsimp only;omega)))) (A7 rfl rfl rfl rfl rfl .nil))) ?_
   try refine A1 ?_
   refine AF ⟨(out++[1],x+1,y+1),by dsimp only;omega,by dsimp only;omega,by dsimp only;rw[hs,hk,List.append_assoc];rfl⟩ (by dsimp only;omega) (fun K=>AE ⟨s_t,s_t,s_t,s_t,s_t,s_t,trivial⟩ trivial ⟨rfl,trivial⟩)
  have hne:∀ p' q',a[x]?=some p'->b[y]?=some q'->p'≠q':=fun p' q' h2 h3 e=>by
   have hxa:x<a.length:=(List.getElem?_eq_some_iff.1 h2).1
   have hyb:y<b.length:=(List.getElem?_eq_some_iff.1 h3).1
   have e1:=(hp hxa).symm.trans h2
   have e2:=(hq hyb).symm.trans h3
   injection e1 with e1
   injection e2 with e2
   rw[HO,HO,decide_eq_true hxa,decide_eq_true hyb,decide_eq_true (e1.trans (e.trans e2.symm))]at h1
   cases h1
  have hlx:x<a.length->y<b.length->(tbL a b)[x+1]?=some (tbR a b (x+1)):=fun h2 _=>F6 a b h2
  try refine A1 ?_
  refine C2 BP (by kernel_rfl) (A5 rfl rfl rfl rfl rfl (A5 rfl rfl rfl rfl rfl (A3 rfl rfl rfl (AO rfl (kn rfl) sle_41) (A3 rfl rfl rfl (A4 rfl (kn rfl) (kn rfl) B9) (A5 rfl rfl rfl rfl rfl (Walk.gd _ rfl rfl rfl (fun h=>A6 rfl (kn rfl)) (Walk.gd _ rfl rfl rfl (fun h=>A6 rfl (kn rfl)) (Walk.gd _ rfl rfl rfl (fun h=>AO rfl (A2 rfl h) sle_41) (Walk.gd _ rfl rfl rfl (fun h=>A4 rfl (A2 rfl h) (A2 rfl h) B4) (Walk.gd _ rfl rfl rfl (fun h=>A6 rfl (A2 rfl h)) (Walk.gd _ rfl rfl rfl (fun h=>A6 rfl (kn rfl)) (Walk.gd _ rfl rfl rfl (fun h=>A6 rfl (kn rfl)) (Walk.gd _ rfl rfl rfl (fun h=>A4 rfl (A2 rfl h) (kn rfl) (A9 (by first | omega | (dsimp only;omega)))) (Walk.gd _ rfl rfl rfl (fun h=>AH rfl (A2 rfl h) (A2 rfl h) (by omega) (F6 a b (x:=x+1) (ltd (gl h))) D7 sle_35 esz_35 rfl) (Walk.gd _ rfl rfl rfl (fun h=>A8 rfl (A2 rfl h) one_41) (Walk.gd _ rfl rfl rfl (fun h=>A6 rfl (kn rfl)) (Walk.gd _ rfl rfl rfl (fun h=>AH rfl (A2 rfl h) (A2 rfl h) (by omega) (EE a b (x+1) hy) AS sle_41 esz_41 rfl) (Walk.gd _ rfl rfl rfl (fun h=>A8 rfl (A2 rfl h) one_3) (Walk.gd _ rfl rfl rfl (fun h=>A6 rfl (kn rfl)) (Walk.gd _ rfl rfl rfl (fun h=>A6 rfl (kn rfl)) (Walk.gd _ rfl rfl rfl (fun h=>AH rfl (A2 rfl h) (A2 rfl h) (by omega) (F6 a b hx) D7 sle_35 esz_35 rfl) (Walk.gd _ rfl rfl rfl (fun h=>A8 rfl (A2 rfl h) one_41) (Walk.gd _ rfl rfl rfl (fun h=>A6 rfl (kn rfl)) (Walk.gd _ rfl rfl rfl (fun h=>A4 rfl (A2 rfl h) (kn rfl) (A9 (by first | omega | (dsimp only;omega)))) (Walk.gd _ rfl rfl rfl (fun h=>AH rfl (A2 rfl h) (A2 rfl h) (by omega) (EE a b x (y:=y+1) (RQ (gr h) hy)) AS sle_41 esz_41 rfl) (Walk.gd _ rfl rfl rfl (fun h=>A8 rfl (A2 rfl h) one_3) (Walk.gd _ rfl rfl rfl (fun h=>A4 rfl (A2 rfl h) (A2 rfl h) IC) (Walk.gd _ rfl rfl rfl (fun h=>IK rfl (A2 rfl h) (fun hb=>A2 rfl (gb h hb))) (A3 rfl rfl rfl (BH rfl (kn rfl) (fun hb=>A2 rfl hb)) .nil))))))))))))))))))))))))))))) ?_
  try refine A1 ?_
  show E _ ((88,.is (.bool (decide ((x:Int)<(a.length:Int))&&(decide ((y:Int)=(b.length:Int))||decide ((dA a b (x+1) y:Int)<=(dA a b x (y+1):Int))))))::_) _ _ _
  refine AC rfl (fun h2=>?_) (fun h2=>?_)
  ·have hxa:=ltd (gl h2)
   have hc:y=b.length\/dA a b (x+1) y<=dA a b x (y+1):=by
    have:=gr h2
    rw[SB,SD,Bool.or_eq_true,decide_eq_true_eq,decide_eq_true_eq]at this
    exact this
   have hk:=QK hxa hne hc hy
   try refine A1 ?_
   refine AG ?_
   refine AI ?_
   refine AJ (AD (ds:=[_]) [(0,_)] rfl ⟨rfl,(kn rfl),trivial⟩ rfl sl_41 sz_3 zr_3 (fun w D=>.cons (.cell _) (.nil _ _)) rfl rfl rfl rfl rfl) ?_
   refine AW rfl rfl rfl rfl (kn rfl) rfl (kn rfl) sl_41 ap_41 rfl rfl (by omega) (by omega) ?_
   refine BG (CD out 2) (CC out 2) ?_
   refine B5 ?_
   refine AA ?_
   try refine A1 ?_
   refine A0 (A5 rfl rfl rfl rfl rfl (A3 rfl rfl rfl (A4 rfl (kn rfl) (kn rfl) (A9 (by first | omega | (dsimp only;omega)))) (A7 rfl rfl rfl rfl rfl .nil))) ?_
   try refine A1 ?_
   refine AF ⟨(out++[2],x+1,y),by dsimp only;omega,hy,by dsimp only;rw[hs,hk,List.append_assoc];rfl⟩ (by dsimp only;omega) (fun K=>AE ⟨s_t,s_t,s_t,s_t,s_t,s_t,trivial⟩ trivial ⟨rfl,trivial⟩)
  rw[HO,SB,SD]at h2
  have hyb:y<b.length:=by
   rcases Nat.lt_or_ge y b.length with h3 | h3
   ·exact h3
   ·have e:y=b.length:=by omega
    rw[decide_eq_true e,Bool.true_or,Bool.and_true]at h2
    have:=of_decide_eq_false h2
    omega
  have hc:x<a.length->dA a b x (y+1)<dA a b (x+1) y:=fun h3=>by
   rw[decide_eq_true h3,Bool.true_and,Bool.or_eq_false_iff]at h2
   have:=of_decide_eq_false h2.2
   omega
  have hk:=RJ hyb hne hc hx
  try refine A1 ?_
  refine AG ?_
  refine AI ?_
  refine AJ (AD (ds:=[_]) [(0,_)] rfl ⟨rfl,(kn rfl),trivial⟩ rfl sl_41 sz_3 zr_3 (fun w D=>.cons (.cell _) (.nil _ _)) rfl rfl rfl rfl rfl) ?_
  refine AW rfl rfl rfl rfl (kn rfl) rfl (kn rfl) sl_41 ap_41 rfl rfl (by omega) (by omega) ?_
  refine BG (CD out 3) (CC out 3) ?_
  refine B5 ?_
  refine AA ?_
  try refine A1 ?_
  refine A0 (A5 rfl rfl rfl rfl rfl (A3 rfl rfl rfl (A4 rfl (kn rfl) (kn rfl) (A9 (by first | omega | (dsimp only;omega)))) (A7 rfl rfl rfl rfl rfl .nil))) ?_
  try refine A1 ?_
  refine AF ⟨(out++[3],x,y+1),hx,by dsimp only;omega,by dsimp only;rw[hs,hk,List.append_assoc];rfl⟩ (by dsimp only;omega) (fun K=>AE ⟨s_t,s_t,s_t,s_t,s_t,s_t,trivial⟩ trivial ⟨rfl,trivial⟩)
 rw[HO,HO,Bool.or_eq_false_iff]at h
 obtain rfl:x=a.length:=by have:=of_decide_eq_false h.1;omega
 obtain rfl:y=b.length:=by have:=of_decide_eq_false h.2;omega
 rw[NS,List.append_nil]at hs
 rw[<- hs]
 try refine A1 ?_
 refine AL 6 1000 rfl rfl rfl ?_
 refine A0 (A5 rfl rfl rfl rfl rfl (A7 rfl rfl rfl rfl rfl .nil)) ?_
 try refine A1 ?_
 exact AM rfl rfl (.tmp (kn rfl) (.nil)) (Imp.refl _) rfl
end Go.Proofs.Ytmhhdoaiccahaaa
