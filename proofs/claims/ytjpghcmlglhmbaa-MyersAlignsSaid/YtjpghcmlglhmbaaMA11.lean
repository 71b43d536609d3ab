/- Part 11. Conditions: as each theorem says. -/
import Derived.Test.YtjpghcmlglhmbaaMA10
import Derived.Test.YtjpghcmlglhmbaaProg
set_option maxRecDepth 100000
namespace Go.Proofs.Ytjpghcmlglhmbaa
open Go.RowKit
abbrev zC(z:Int):Dat:=.cell (.int .i64 z)
abbrev zP(z:Int):Part:=.one (zC z)
abbrev bP(b:Bool):Part:=.one (.cell (.bool b))
theorem G8{a b:Bool}(h:a=b):Imp (.part (bP a)) (.part (bP b)):=Imp.of_eq (by rw[h])
theorem HD{a b:Int}(h:a=b):Imp (.part (zP a)) (.part (zP b)):=Imp.of_eq (by rw[h])
abbrev zI(z:Int):IV:=.is (.int .i64 z)
def zD1(z:Int):List Dat:=[zC z]
theorem AG(z:Int):(zD1 z).length=1:=rfl
theorem s_z{T:TL}{t:Nat}{m n:Int}(h:lk t T=some (zI n))(e:n=m):∃ z,lk t T=some z/\Imp z (zI m):=by subst e;exact⟨_,h,Imp.refl _⟩
abbrev zsD(l:List Int):Dat:=.row 1 l.length (l.flatMap zD1)
def J6(l:List Int):List Dat:=[zsD l]
theorem CA(l:List Int):(J6 l).length=1:=rfl
abbrev DJ(L:List (List Int)):Dat:=.row 1 L.length (L.flatMap J6)
abbrev HT:Dat:=.cell (.slice none 0 0)
theorem EM{α:Type}{f:α->List Dat}{g:α->Dat}(hf:∀ a,f a=[g a])(l:List α):l.flatMap f=l.map g:=by
 induction l with
 | nil=>rfl
 | cons x l ih=>rw[List.flatMap_cons,hf,ih];rfl
theorem CD{α:Type}(f:Nat->α){n i:Nat}(h:i<n):((List.range n).map f)[i]?=some (f i):=by
 rw[List.getElem?_map,List.getElem?_range h]
 rfl
theorem LU{α:Type}(f:Nat->α)(n:Nat):((List.range n).map f).length=n:=by simp
theorem GY{α:Type}(f g:Nat->α){n i:Nat}(h:∀ j,j<n->j≠i->f j=g j):((List.range n).map f).set i (g i)=(List.range n).map g:=by
 apply List.ext_getElem?
 intro j
 rw[List.getElem?_set]
 rcases Nat.lt_or_ge j n with hj | hj
 ·rw[CD g hj]
  by_cases e:i=j
  ·subst e
   rw[if_pos rfl,if_pos (by simpa using hj)]
  ·rw[if_neg e,CD f hj,h j hj (Ne.symm e)]
 ·rw[List.getElem?_eq_none (l:=(List.range n).map g) (by simpa using hj)]
  split
  ·rename_i e
   rw[if_neg (by rw[LU];omega)]
  ·exact List.getElem?_eq_none (by simpa using hj)
def dA(a b:List Int)(x y:Nat):Nat:=ed (sm a b) (a.length-x) (b.length-y)
theorem MZ(a b:List Int)(y:Nat):dA a b a.length y=b.length-y:=by unfold dA;rw[Nat.sub_self,BM]
theorem LP(a b:List Int)(x:Nat):dA a b x b.length=a.length-x:=by unfold dA;rw[Nat.sub_self,BW]
theorem MI(a b:List Int)(x y:Nat):dA a b x y<=a.length+b.length:=by
 have:=K9 (s:=sm a b) (a.length-x) (b.length-y)
 unfold dA
 omega
theorem MJ{a b:List Int}{x y:Nat}{p q:Int}(hp:a[x]?=some p)(hq:b[y]?=some q):dA a b x y=if p=q then dA a b (x+1) (y+1)else 1+min (dA a b (x+1) y) (dA a b x (y+1)):=by
 have hx:x<a.length:=(List.getElem?_eq_some_iff.1 hp).1
 have hy:y<b.length:=(List.getElem?_eq_some_iff.1 hq).1
 have h:=EP hp hq
 unfold dA
 rw[show a.length-x=(a.length-1-x)+1 by omega,show b.length-y=(b.length-1-y)+1 by omega,GM,h,show a.length-(x+1)=a.length-1-x by omega,show b.length-(y+1)=b.length-1-y by omega]
 by_cases e:p=q<;>simp[e]
def tbR(a b:List Int)(x:Nat):List Int:=(List.range (b.length+1)).map fun y=>(dA a b x y:Int)
def tbL(a b:List Int):List (List Int):=(List.range (a.length+1)).map (tbR a b)
def D1(a b:List Int)(x n:Nat):List Dat:=(List.range (b.length+1)).map fun j=>if n<=j then zC (dA a b x j:Int)else zC 0
def CG(a b:List Int)(m:Nat):List Dat:=(List.range (a.length+1)).map fun j=>if m<=j then zsD (tbR a b j)else HT
theorem DY(a b:List Int)(x n:Nat):(D1 a b x n).length=b.length+1:=by simp[D1]
theorem L3(a b:List Int)(m:Nat):(CG a b m).length=a.length+1:=by simp[CG]
theorem MD(a b:List Int)(x:Nat):(tbR a b x).length=b.length+1:=by simp[tbR]
theorem LW(a b:List Int):(tbL a b).length=a.length+1:=by simp[tbL]
theorem CN(a b:List Int)(x:Nat){y:Nat}(h:y<=b.length):(tbR a b x)[y]?=some (dA a b x y:Int):=CD _ (by omega)
theorem DC(a b:List Int){x:Nat}(h:x<=a.length):(tbL a b)[x]?=some (tbR a b x):=CD _ (by omega)
theorem L4(a b:List Int){x n j:Nat}(h:n<=j)(hj:j<=b.length):(D1 a b x n)[j]?=some (zC (dA a b x j:Int)):=by
 unfold D1
 rw[CD _ (by omega),if_pos h]
theorem KX(a b:List Int)(x y:Nat):(D1 a b x (y+1)).set y (zC (dA a b x y:Int))=D1 a b x y:=by
 have:=GY (n:=b.length+1) (i:=y) (fun j=>if y+1<=j then zC (dA a b x j:Int)else zC 0) (fun j=>if y<=j then zC (dA a b x j:Int)else zC 0) fun j _ hn=>by
  by_cases h:y<=j
  ·simp only[if_pos h,if_pos (show y+1<=j by omega)]
  ·simp only[if_neg h,if_neg (show ¬ y+1<=j by omega)]
 simpa[D1]using this
theorem K2(a b:List Int)(x:Nat):(CG a b (x+1)).set x (zsD (tbR a b x))=CG a b x:=by
 have:=GY (n:=a.length+1) (i:=x) (fun j=>if x+1<=j then zsD (tbR a b j)else HT) (fun j=>if x<=j then zsD (tbR a b j)else HT) fun j _ hn=>by
  by_cases h:x<=j
  ·simp only[if_pos h,if_pos (show x+1<=j by omega)]
  ·simp only[if_neg h,if_neg (show ¬ x+1<=j by omega)]
 simpa[CG]using this
theorem KA(a b:List Int){m j:Nat}(h:m<=j)(hj:j<=a.length):(CG a b m)[j]?=some (zsD (tbR a b j)):=by
 unfold CG
 rw[CD _ (by omega),if_pos h]
theorem JU(a b:List Int)(x:Nat):Dat.row 1 (b.length+1) (D1 a b x 0)=zsD (tbR a b x):=by
 unfold zsD
 rw[MD,EM (f:=zD1) (g:=zC) (fun _=>rfl)]
 simp[D1,tbR]
theorem JD(a b:List Int):Dat.row 1 (a.length+1) (CG a b 0)=DJ (tbL a b):=by
 unfold DJ
 rw[LW,EM (f:=J6) (g:=zsD) (fun _=>rfl)]
 simp[CG,tbL]
theorem JH(a b:List Int)(x:Nat):(List.replicate (b.length+1) [Value.int .i64 0]).flatten.map Dat.cell=D1 a b x (b.length+1):=by
 have h:D1 a b x (b.length+1)=(List.range (b.length+1)).map fun _=>zC 0:=by
  unfold D1
  refine List.map_congr_left fun j hj=>if_neg ?_
  have:=List.mem_range.1 hj
  omega
 rw[h,List.map_const']
 simp
theorem JQ(a b:List Int):(List.replicate (a.length+1) [Value.slice none 0 0]).flatten.map Dat.cell=CG a b (a.length+1):=by
 have h:CG a b (a.length+1)=(List.range (a.length+1)).map fun _=>HT:=by
  unfold CG
  refine List.map_congr_left fun j hj=>if_neg ?_
  have:=List.mem_range.1 hj
  omega
 rw[h,List.map_const']
 simp
theorem sAt{α:Type}{l:List α}{i:Nat}{x:α}(h:i<l.length):(l.set i x)[i]?=some x:=by simp[h]
theorem O9{α:Type}{l:List α}{i j:Nat}{x:α}(h:i≠j):(l.set i x)[j]?=l[j]?:=by simp[h]
set_option maxHeartbeats 4000000 in
theorem G0(a b:List Int)(ha:a.length<=1000000)(hb:b.length<=1000000):EF Try.prog [] 9 [.one (zsD a),.one (zsD b)] (.part (.one (DJ (tbL a b)))):=by
 refine AT 135 Try.func9 rfl rfl rfl fun w D=>?_
 try refine A2 ?_
 refine A0 (A9 rfl rfl rfl rfl rfl .nil) ?_
 try refine A2 ?_
 refine AR ?_
 refine AL ?_
 refine AM (AJ rfl (kn rfl) sle_22) ?_
 refine AM (A3 rfl (kn rfl) (kn rfl) (AA (by first | omega | (dsimp only;omega)))) ?_
 rw[show((a.length:Int)+1)=((a.length+1:Nat):Int) from rfl]
 refine N2 1000 rfl rfl rfl rfl (kn rfl) (kn rfl) sl_25 ap_25 zr_22 (by omega) (by omega) (JQ a b) rfl rfl ?_
 refine B9 ?_
 refine AD ?_
 try refine A2 ?_
 refine A0 (A6 rfl rfl rfl rfl rfl (A4 rfl rfl rfl (AJ rfl (kn rfl) sle_22) (A9 rfl rfl rfl rfl rfl .nil))) ?_
 try refine A2 ?_
 refine BA (ι:={ m:Nat // m<=a.length+1 })
  (fun m=>[(0,.part (.one (zsD a))),(1,.part (.one (zsD b))),(5,.own 1000),(6,zI ((m.1:Int)-1))])
  (fun _=>[]) (fun m=>[(1000,⟨22,1,a.length+1,CG a b m.1,false⟩)]) (fun m=>m.1) ⟨a.length+1,Nat.le_refl _⟩
  (fun K=>AO ⟨s_t,s_t,s_t,s_z rfl (by dsimp only;omega),trivial⟩ trivial ⟨rfl,trivial⟩) ?_
 rintro⟨m,hm⟩
 dsimp only at hm ⊢
 try refine A2 ?_
 refine A0 (A6 rfl rfl rfl rfl rfl (A4 rfl rfl rfl (A3 rfl (kn rfl) (kn rfl) GB) .nil)) ?_
 try refine A2 ?_
 refine AE rfl (fun h=>?_) (fun h=>?_)
 ·obtain⟨x,rfl⟩:∃ x,m=x+1:=⟨m-1,by have:=of_decide_eq_true h;omega⟩
  rw[show(((x+1:Nat):Int)-1)=(x:Int) by omega]
  have hol:=L3 a b (x+1)
  try refine A2 ?_
  refine AR ?_
  refine AL ?_
  refine AL ?_
  refine AL ?_
  refine AM (AJ rfl (kn rfl) sle_22) ?_
  refine AM (A3 rfl (kn rfl) (kn rfl) (AA (by first | omega | (dsimp only;omega)))) ?_
  rw[show((b.length:Int)+1)=((b.length+1:Nat):Int) from rfl]
  refine N2 1001 rfl rfl rfl rfl (kn rfl) (kn rfl) sl_22 ap_22 zr_3 (by omega) (by omega) (JH a b x) rfl rfl ?_
  refine JV (t:=23) rfl rfl rfl fun v1 hv1=>?_
  refine HX 9001 (t:=23) rfl ?_
  refine N0 23 rfl (N4 _ _) ?_
  refine AM (AC rfl (kn rfl) rfl (kn rfl) ⟨by omega,by omega⟩ sle_25 esz_25) ?_
  refine AY (ds':=(CG a b (x+1)).set x (.cell v1)) rfl rfl rfl (kn rfl) rfl (kn rfl) hv1 (by rw[hol];omega) sz_22 (by simp) ?_ rfl
  refine AD ?_
  try refine A2 ?_
  refine A0 (A6 rfl rfl rfl rfl rfl (A4 rfl rfl rfl (AJ rfl (kn rfl) sle_22) (A9 rfl rfl rfl rfl rfl .nil))) ?_
  try refine A2 ?_
  have hget:=sAt (l:=CG a b (x+1)) (x:=Dat.cell v1) (i:=x) (by omega)
  have hnext:x+1<=a.length->((CG a b (x+1)).set x (Dat.cell v1))[x+1]?=some (zsD (tbR a b (x+1))):=fun h=>by rw[O9 (by omega)];exact KA a b (Nat.le_refl _) h
  have hset:((CG a b (x+1)).set x (Dat.cell v1)).set x (zsD (tbR a b x))=CG a b x:=by rw[List.set_set];exact K2 a b x
  generalize(CG a b (x+1)).set x (Dat.cell v1)=ow at hget hnext hset ⊢
  refine BA (ι:={ n:Nat // n<=b.length+1 })
   (fun n=>[(9001,JR 1001 v1),(0,.part (.one (zsD a))),(1,.part (.one (zsD b))),(5,.own 1000),(6,zI (x:Int)),(7,zI ((n.1:Int)-1))])
   (fun _=>[]) (fun n=>[(1000,⟨22,1,a.length+1,ow,false⟩),(1001,⟨3,1,b.length+1,D1 a b x n.1,false⟩)]) (fun n=>n.1) ⟨b.length+1,Nat.le_refl _⟩
   (fun K=>AO ⟨s_t,s_t,s_t,s_t,s_t,s_z rfl (by dsimp only;omega),trivial⟩ trivial ⟨rfl,rfl,trivial⟩) ?_
  rintro⟨n,hn⟩
  dsimp only at hn ⊢
  try refine A2 ?_
  refine A0 (A6 rfl rfl rfl rfl rfl (A4 rfl rfl rfl (A3 rfl (kn rfl) (kn rfl) GB) .nil)) ?_
  try refine A2 ?_
  refine AE rfl (fun h=>?_) (fun h=>?_)
  ·obtain⟨y,rfl⟩:∃ y,n=y+1:=⟨n-1,by have:=of_decide_eq_true h;omega⟩
   rw[show(((y+1:Nat):Int)-1)=(y:Int) by omega]
   have hrl:=DY a b x (y+1)
   have hrs:=KX a b x y
   try refine A2 ?_
   refine A0 (A6 rfl rfl rfl rfl rfl (A6 rfl rfl rfl rfl rfl (A4 rfl rfl rfl (AJ rfl (kn rfl) sle_22) (A4 rfl rfl rfl (A3 rfl (kn rfl) (kn rfl) B2) (A9 rfl rfl rfl rfl rfl .nil))))) ?_
   try refine A2 ?_
   refine AE rfl (fun h1=>?_) (fun h1=>?_)
   ·have ex:x=a.length:=by have:=of_decide_eq_true h1;omega
    have hval:((b.length:Int)-(y:Int))=(dA a b x y:Int):=by rw[ex,MZ];omega
    try refine A2 ?_
    refine AR ?_
    refine AL ?_
    refine AL ?_
    refine AM (AC rfl (kn rfl) rfl (kn rfl) ⟨by omega,by omega⟩ sle_25 esz_25) ?_
    refine AM (AP rfl (kn rfl) rfl (by simpa using hget) one_22) ?_
    refine AL ?_
    refine AL ?_
    refine AM (AJ rfl (kn rfl) sle_22) ?_
    refine AL ?_
    refine AM (A3 rfl (kn rfl) (kn rfl) (AB (by first | omega | (dsimp only;omega)))) ?_
    refine J1 (t:=54) (s:=9001) rfl rfl ?_
    refine AM (AC rfl (EN (kn rfl) (IN _ _)) rfl (kn rfl) ⟨by omega,by omega⟩ sle_22 esz_22) ?_
    refine AY (ds':=D1 a b x y) rfl rfl rfl (kn rfl) rfl (kn rfl) rfl (by rw[hrl];omega) sz_3 (by rw[show((y:Int).toNat*1)=y by omega,hval];exact hrs) ?_ rfl
    refine AD ?_
    try refine A2 ?_
    refine A0 (A6 rfl rfl rfl rfl rfl (A4 rfl rfl rfl (A3 rfl (kn rfl) (kn rfl) (AB (by first | omega | (dsimp only;omega)))) (A9 rfl rfl rfl rfl rfl .nil))) ?_
    try refine A2 ?_
    refine AS ⟨y,by omega⟩ (by dsimp only;omega) (fun K=>AO ⟨s_t,s_t,s_t,s_t,s_t,s_z rfl (by first | rfl | omega),trivial⟩ trivial ⟨rfl,rfl,trivial⟩)
   have hxa:x<a.length:=by have:=of_decide_eq_false h1;omega
   obtain⟨p,hp⟩:∃ p,a[x]?=some p:=⟨_,List.getElem?_eq_getElem hxa⟩
   have hnx:=hnext (by omega)
   try refine A2 ?_
   refine A0 (A6 rfl rfl rfl rfl rfl (A6 rfl rfl rfl rfl rfl (A4 rfl rfl rfl (AJ rfl (kn rfl) sle_22) (A4 rfl rfl rfl (A3 rfl (kn rfl) (kn rfl) B2) (A9 rfl rfl rfl rfl rfl .nil))))) ?_
   try refine A2 ?_
   refine AE rfl (fun h2=>?_) (fun h2=>?_)
   ·have ey:y=b.length:=by have:=of_decide_eq_true h2;omega
    have hval:((a.length:Int)-(x:Int))=(dA a b x y:Int):=by rw[ey,LP];omega
    try refine A2 ?_
    refine AR ?_
    refine AL ?_
    refine AL ?_
    refine AM (AC rfl (kn rfl) rfl (kn rfl) ⟨by omega,by omega⟩ sle_25 esz_25) ?_
    refine AM (AP rfl (kn rfl) rfl (by simpa using hget) one_22) ?_
    refine AL ?_
    refine AL ?_
    refine AM (AJ rfl (kn rfl) sle_22) ?_
    refine AL ?_
    refine AM (A3 rfl (kn rfl) (kn rfl) (AB (by first | omega | (dsimp only;omega)))) ?_
    refine J1 (t:=69) (s:=9001) rfl rfl ?_
    refine AM (AC rfl (EN (kn rfl) (IN _ _)) rfl (kn rfl) ⟨by omega,by omega⟩ sle_22 esz_22) ?_
    refine AY (ds':=D1 a b x y) rfl rfl rfl (kn rfl) rfl (kn rfl) rfl (by rw[hrl];omega) sz_3 (by rw[show((y:Int).toNat*1)=y by omega,hval];exact hrs) ?_ rfl
    refine AD ?_
    try refine A2 ?_
    refine A0 (A6 rfl rfl rfl rfl rfl (A4 rfl rfl rfl (A3 rfl (kn rfl) (kn rfl) (AB (by first | omega | (dsimp only;omega)))) (A9 rfl rfl rfl rfl rfl .nil))) ?_
    try refine A2 ?_
    refine AS ⟨y,by omega⟩ (by dsimp only;omega) (fun K=>AO ⟨s_t,s_t,s_t,s_t,s_t,s_z rfl (by first | rfl | omega),trivial⟩ trivial ⟨rfl,rfl,trivial⟩)
   have hyb:y<b.length:=by have:=of_decide_eq_false h2;omega
   obtain⟨q,hq⟩:∃ q,b[y]?=some q:=⟨_,List.getElem?_eq_getElem hyb⟩
   have hat:=MJ hp hq
   have hly:=L4 a b (x:=x) (n:=y+1) (j:=y+1) (Nat.le_refl _) (by omega)
   have hny:=CN a b (x+1) (y:=y) (by omega)
   have hny1:=CN a b (x+1) (y:=y+1) (by omega)
   have hd1:=MI a b (x+1) y
   have hd2:=MI a b x (y+1)
   try refine A2 ?_
   refine C8 BO (by kernel_rfl) (A6 rfl rfl rfl rfl rfl (A6 rfl rfl rfl rfl rfl (A4 rfl rfl rfl (AF rfl (kn rfl) (kn rfl) (by omega) hp AG sle_22 esz_22 rfl) (A4 rfl rfl rfl (A7 rfl (kn rfl) one_3) (A6 rfl rfl rfl rfl rfl (A6 rfl rfl rfl rfl rfl (A4 rfl rfl rfl (AF rfl (kn rfl) (kn rfl) (by omega) hq AG sle_22 esz_22 rfl) (A4 rfl rfl rfl (A7 rfl (kn rfl) one_3) (A4 rfl rfl rfl (A3 rfl (kn rfl) (kn rfl) B2) (A9 rfl rfl rfl rfl rfl .nil)))))))))) ?_
   try refine A2 ?_
   refine AE rfl (fun h3=>?_) (fun h3=>?_)
   ·have hval:(dA a b (x+1) (y+1):Int)=(dA a b x y:Int):=by rw[hat,if_pos (of_decide_eq_true h3)]
    try refine A2 ?_
    refine CO [(9001,1001,v1)] 14 ⟨rfl,trivial⟩ BO (by kernel_rfl) (AN rfl rfl rfl (A5 rfl (kn rfl)) (AN rfl rfl rfl (A5 rfl (kn rfl)) (AN rfl rfl rfl (AC rfl (kn rfl) rfl (kn rfl) ⟨by omega,by omega⟩ sle_25 esz_25) (WalkV.op rfl rfl rfl (FI (AP rfl (kn rfl) rfl (by simpa using hget) one_22) (fun _ h=>h.1) rfl) (AN rfl rfl rfl (A5 rfl (kn rfl)) (AN rfl rfl rfl (A5 rfl (kn rfl)) (AN rfl rfl rfl (A5 rfl (kn rfl)) (AN rfl rfl rfl (A3 rfl (kn rfl) (kn rfl) (AA (by first | omega | (dsimp only;omega)))) (AN rfl rfl rfl (AC (z:=((x+1:Nat):Int)) rfl (kn rfl) rfl (kn rfl) ⟨by omega,by omega⟩ sle_25 esz_25) (AN rfl rfl rfl (AP rfl (kn rfl) rfl (by simpa using hnx) one_22) (AN rfl rfl rfl (A5 rfl (kn rfl)) (AN rfl rfl rfl (A3 rfl (kn rfl) (kn rfl) (AA (by first | omega | (dsimp only;omega)))) (AN rfl rfl rfl (AF rfl (kn rfl) (kn rfl) (by omega) hny1 AG sle_22 esz_22 rfl) (AN rfl rfl rfl (A7 rfl (kn rfl) one_3) (WalkV.nil))))))))))))))) ?_
    refine AM (AC rfl (kn rfl) rfl (kn rfl) ⟨by omega,by omega⟩ sle_22 esz_22) ?_
    refine AY (ds':=D1 a b x y) rfl rfl rfl (kn rfl) rfl (kn rfl) rfl (by rw[DY];omega) sz_3 (by rw[show((y:Int).toNat*1)=y by omega,hval];exact hrs) ?_ rfl
    refine AD ?_
    try refine A2 ?_
    refine A0 (A6 rfl rfl rfl rfl rfl (A4 rfl rfl rfl (A3 rfl (kn rfl) (kn rfl) (AB (by first | omega | (dsimp only;omega)))) (A9 rfl rfl rfl rfl rfl .nil))) ?_
    try refine A2 ?_
    refine AS ⟨y,by omega⟩ (by dsimp only;omega) (fun K=>AO ⟨s_t,s_t,s_t,s_t,s_t,s_z rfl (by first | rfl | omega),trivial⟩ trivial ⟨rfl,rfl,trivial⟩)
   rw[if_neg (of_decide_eq_false h3)]at hat
   try refine A2 ?_
   refine LE [(9001,1001,v1)] ⟨rfl,trivial⟩ BO (by kernel_rfl) (AN rfl rfl rfl (A5 rfl (kn rfl)) (AN rfl rfl rfl (A5 rfl (kn rfl)) (AN rfl rfl rfl (A3 rfl (kn rfl) (kn rfl) (AA (by first | omega | (dsimp only;omega)))) (AN rfl rfl rfl (AC (z:=((x+1:Nat):Int)) rfl (kn rfl) rfl (kn rfl) ⟨by omega,by omega⟩ sle_25 esz_25) (AN rfl rfl rfl (AP rfl (kn rfl) rfl (by simpa using hnx) one_22) (AN rfl rfl rfl (A5 rfl (kn rfl)) (AN rfl rfl rfl (AF rfl (kn rfl) (kn rfl) (by omega) hny AG sle_22 esz_22 rfl) (AN rfl rfl rfl (A7 rfl (kn rfl) one_3) (AN rfl rfl rfl (A5 rfl (kn rfl)) (AN rfl rfl rfl (A5 rfl (kn rfl)) (AN rfl rfl rfl (AC rfl (kn rfl) rfl (kn rfl) ⟨by omega,by omega⟩ sle_25 esz_25) (WalkV.op rfl rfl rfl (FI (AP rfl (kn rfl) rfl (by simpa using hget) one_22) (fun _ h=>h.1) rfl) (AN rfl rfl rfl (A5 rfl (kn rfl)) (AN rfl rfl rfl (A3 rfl (kn rfl) (kn rfl) (AA (by first | omega | (dsimp only;omega)))) (AN rfl rfl rfl (AC (z:=((y+1:Nat):Int)) rfl (kn rfl) rfl (kn rfl) ⟨by omega,by omega⟩ sle_22 esz_22) (AN rfl rfl rfl (AP rfl (kn rfl) rfl (by simpa using hly) one_3) (AN rfl rfl rfl (A3 rfl (kn rfl) (kn rfl) BF) (AN rfl rfl rfl (FW rfl (kn rfl)) (WalkV.nil))))))))))))))))))) ?_
   try refine A2 ?_
   refine AE rfl (fun h4=>?_) (fun h4=>?_)
   ·have hlt:dA a b (x+1) y<dA a b x (y+1):=by have:=of_decide_eq_true h4;omega
    have hval:(dA a b (x+1) y:Int)+1=(dA a b x y:Int):=by rw[hat,Nat.min_eq_left (by omega)];omega
    try refine A2 ?_
    refine CO [(9001,1001,v1)] 14 ⟨rfl,trivial⟩ BO (by kernel_rfl) (AN rfl rfl rfl (A5 rfl (kn rfl)) (AN rfl rfl rfl (A5 rfl (kn rfl)) (AN rfl rfl rfl (AC rfl (kn rfl) rfl (kn rfl) ⟨by omega,by omega⟩ sle_25 esz_25) (WalkV.op rfl rfl rfl (FI (AP rfl (kn rfl) rfl (by simpa using hget) one_22) (fun _ h=>h.1) rfl) (AN rfl rfl rfl (A5 rfl (kn rfl)) (AN rfl rfl rfl (A5 rfl (kn rfl)) (AN rfl rfl rfl (A5 rfl (kn rfl)) (AN rfl rfl rfl (A3 rfl (kn rfl) (kn rfl) (AA (by first | omega | (dsimp only;omega)))) (AN rfl rfl rfl (AC (z:=((x+1:Nat):Int)) rfl (kn rfl) rfl (kn rfl) ⟨by omega,by omega⟩ sle_25 esz_25) (AN rfl rfl rfl (AP rfl (kn rfl) rfl (by simpa using hnx) one_22) (AN rfl rfl rfl (A5 rfl (kn rfl)) (AN rfl rfl rfl (AF rfl (kn rfl) (kn rfl) (by omega) hny AG sle_22 esz_22 rfl) (AN rfl rfl rfl (A7 rfl (kn rfl) one_3) (AN rfl rfl rfl (A3 rfl (kn rfl) (kn rfl) (AA (by first | omega | (dsimp only;omega)))) (WalkV.nil))))))))))))))) ?_
    refine AM (AC rfl (kn rfl) rfl (kn rfl) ⟨by omega,by omega⟩ sle_22 esz_22) ?_
    refine AY (ds':=D1 a b x y) rfl rfl rfl (kn rfl) rfl (kn rfl) rfl (by rw[DY];omega) sz_3 (by rw[show((y:Int).toNat*1)=y by omega,hval];exact hrs) ?_ rfl
    refine AD ?_
    try refine A2 ?_
    refine A0 (A6 rfl rfl rfl rfl rfl (A4 rfl rfl rfl (A3 rfl (kn rfl) (kn rfl) (AB (by first | omega | (dsimp only;omega)))) (A9 rfl rfl rfl rfl rfl .nil))) ?_
    try refine A2 ?_
    refine AS ⟨y,by omega⟩ (by dsimp only;omega) (fun K=>AO ⟨s_t,s_t,s_t,s_t,s_t,s_z rfl (by first | rfl | omega),trivial⟩ trivial ⟨rfl,rfl,trivial⟩)
   have hge:dA a b x (y+1)<=dA a b (x+1) y:=by have:=of_decide_eq_false h4;omega
   have hval:(dA a b x (y+1):Int)+1=(dA a b x y:Int):=by rw[hat,Nat.min_eq_right (by omega)];omega
   try refine A2 ?_
   refine CO [(9001,1001,v1)] 14 ⟨rfl,trivial⟩ BO (by kernel_rfl) (AN rfl rfl rfl (A5 rfl (kn rfl)) (AN rfl rfl rfl (A5 rfl (kn rfl)) (AN rfl rfl rfl (AC rfl (kn rfl) rfl (kn rfl) ⟨by omega,by omega⟩ sle_25 esz_25) (WalkV.op rfl rfl rfl (FI (AP rfl (kn rfl) rfl (by simpa using hget) one_22) (fun _ h=>h.1) rfl) (AN rfl rfl rfl (A5 rfl (kn rfl)) (AN rfl rfl rfl (A5 rfl (kn rfl)) (AN rfl rfl rfl (A5 rfl (kn rfl)) (AN rfl rfl rfl (AC rfl (kn rfl) rfl (kn rfl) ⟨by omega,by omega⟩ sle_25 esz_25) (WalkV.op rfl rfl rfl (FI (AP rfl (kn rfl) rfl (by simpa using hget) one_22) (fun _ h=>h.1) rfl) (AN rfl rfl rfl (A5 rfl (kn rfl)) (AN rfl rfl rfl (A3 rfl (kn rfl) (kn rfl) (AA (by first | omega | (dsimp only;omega)))) (AN rfl rfl rfl (AC (z:=((y+1:Nat):Int)) rfl (kn rfl) rfl (kn rfl) ⟨by omega,by omega⟩ sle_22 esz_22) (AN rfl rfl rfl (AP rfl (kn rfl) rfl (by simpa using hly) one_3) (AN rfl rfl rfl (A3 rfl (kn rfl) (kn rfl) (AA (by first | omega | (dsimp only;omega)))) (WalkV.nil))))))))))))))) ?_
   refine AM (AC rfl (kn rfl) rfl (kn rfl) ⟨by omega,by omega⟩ sle_22 esz_22) ?_
   refine AY (ds':=D1 a b x y) rfl rfl rfl (kn rfl) rfl (kn rfl) rfl (by rw[DY];omega) sz_3 (by rw[show((y:Int).toNat*1)=y by omega,hval];exact hrs) ?_ rfl
   refine AD ?_
   try refine A2 ?_
   refine A0 (A6 rfl rfl rfl rfl rfl (A4 rfl rfl rfl (A3 rfl (kn rfl) (kn rfl) (AB (by first | omega | (dsimp only;omega)))) (A9 rfl rfl rfl rfl rfl .nil))) ?_
   try refine A2 ?_
   refine AS ⟨y,by omega⟩ (by dsimp only;omega) (fun K=>AO ⟨s_t,s_t,s_t,s_t,s_t,s_z rfl (by first | rfl | omega),trivial⟩ trivial ⟨rfl,rfl,trivial⟩)
  obtain rfl:n=0:=by have:=of_decide_eq_false h;omega
  try refine A2 ?_
  refine KR 1001 rfl rfl ?_
  refine NG x (s:=9001) (r:=1000) (q:=1001) rfl rfl rfl rfl hget (show _=CG a b x by rw[<- hset,<- JU];rfl) ?_
  refine A0 (A6 rfl rfl rfl rfl rfl (A4 rfl rfl rfl (A3 rfl (kn rfl) (kn rfl) (AB (by first | omega | (dsimp only;omega)))) (A9 rfl rfl rfl rfl rfl .nil))) ?_
  try refine A2 ?_
  refine AS ⟨x,by omega⟩ (by dsimp only;omega) (fun K=>AO ⟨s_t,s_t,s_t,s_z rfl (by first | rfl | omega),trivial⟩ trivial ⟨rfl,trivial⟩)
 obtain rfl:m=0:=by have:=of_decide_eq_false h;omega
 try refine A2 ?_
 refine AU 5 1000 rfl rfl rfl ?_
 refine A0 (A6 rfl rfl rfl rfl rfl (A9 rfl rfl rfl rfl rfl .nil)) ?_
 try refine A2 ?_
 exact AI rfl rfl (.tmp (kn rfl) (.nil)) (Imp.of_eq (by show IV.part (.one (.row 1 (a.length+1) (CG a b 0)))=_;rw[JD])) rfl
theorem ltd{m n:Nat}(h:decide ((m:Int)<(n:Int))=true):m<n:=by have:=of_decide_eq_true h;omega
theorem ltf{m n:Nat}(h:decide ((m:Int)<(n:Int))=false):n<=m:=by have:=of_decide_eq_false h;omega
theorem G4(m n:Nat):decide ((m:Int)<(n:Int))=decide (m<n):=decide_eq_decide.2 (by omega)
theorem NW(m n:Nat):decide ((m:Int)<=(n:Int))=decide (m<=n):=decide_eq_decide.2 (by omega)
theorem NK(m n:Nat):decide ((m:Int)=(n:Int))=decide (m=n):=decide_eq_decide.2 (by omega)
theorem NJ{m n:Nat}(h:(!decide ((m:Int)=(n:Int)))=true)(hm:m<=n):m+1<=n:=by
 simp only[Bool.not_eq_true',decide_eq_false_iff_not]at h
 omega
theorem ET(l:List Int)(x:Nat):∃ p,x<l.length->l[x]?=some p:=⟨l.getD x 0,fun h=>by rw[List.getD_eq_getElem?_getD,List.getElem?_eq_getElem h];rfl⟩
theorem CS(l:List Int)(z:Int):l.flatMap zD1++[zC z]=(l++[z]).flatMap zD1:=by simp[zD1]
theorem BU{α:Type}(l:List α)(z:α):l.length+1=(l++[z]).length:=by simp
def sA(a b:List Int)(x y:Nat):List Int:=st (sm a b) (a.length-x) (b.length-y)
theorem L2(a b:List Int):sA a b a.length b.length=[]:=by unfold sA;rw[Nat.sub_self,Nat.sub_self,st_00]
theorem IZ{a b:List Int}{x y:Nat}{p:Int}(hp:a[x]?=some p)(hq:b[y]?=some p):sA a b x y=1::sA a b (x+1) (y+1):=by
 have hx:x<a.length:=(List.getElem?_eq_some_iff.1 hp).1
 have hy:y<b.length:=(List.getElem?_eq_some_iff.1 hq).1
 have h:=EP hp hq
 unfold sA
 rw[show a.length-x=(a.length-1-x)+1 by omega,show b.length-y=(b.length-1-y)+1 by omega,E9,h,show a.length-(x+1)=a.length-1-x by omega,show b.length-(y+1)=b.length-1-y by omega]
 simp
theorem M3{a b:List Int}{x y:Nat}(hx:x<a.length)(hne:∀ p q,a[x]?=some p->b[y]?=some q->p≠q)(h:y=b.length\/dA a b (x+1) y<=dA a b x (y+1))(hy:y<=b.length):sA a b x y=2::sA a b (x+1) y:=by
 obtain⟨p,hp⟩:∃ p,a[x]?=some p:=⟨_,List.getElem?_eq_getElem hx⟩
 unfold sA
 rcases Nat.lt_or_ge y b.length with hy1 | hy1
 ·obtain⟨q,hq⟩:∃ q,b[y]?=some q:=⟨_,List.getElem?_eq_getElem hy1⟩
  have h0:=EP hp hq
  have h1:dA a b (x+1) y<=dA a b x (y+1):=by
   rcases h with h | h
   ·omega
   ·exact h
  unfold dA at h1
  rw[show a.length-(x+1)=a.length-1-x by omega,show b.length-y=(b.length-1-y)+1 by omega,show a.length-x=(a.length-1-x)+1 by omega,show b.length-(y+1)=b.length-1-y by omega]at h1
  rw[show a.length-x=(a.length-1-x)+1 by omega,show b.length-y=(b.length-1-y)+1 by omega,E9,h0,if_neg (by simpa using hne p q hp hq),if_pos h1,show a.length-(x+1)=a.length-1-x by omega]
 ·rw[show b.length-y=0 by omega,show a.length-x=(a.length-(x+1))+1 by omega,HG]
theorem N5{a b:List Int}{x y:Nat}(hy:y<b.length)(hne:∀ p q,a[x]?=some p->b[y]?=some q->p≠q)(h:x<a.length->dA a b x (y+1)<dA a b (x+1) y)(hx:x<=a.length):sA a b x y=3::sA a b x (y+1):=by
 obtain⟨q,hq⟩:∃ q,b[y]?=some q:=⟨_,List.getElem?_eq_getElem hy⟩
 unfold sA
 rcases Nat.lt_or_ge x a.length with hx1 | hx1
 ·obtain⟨p,hp⟩:∃ p,a[x]?=some p:=⟨_,List.getElem?_eq_getElem hx1⟩
  have h0:=EP hp hq
  have h1:=h hx1
  unfold dA at h1
  rw[show a.length-(x+1)=a.length-1-x by omega,show b.length-y=(b.length-1-y)+1 by omega,show a.length-x=(a.length-1-x)+1 by omega,show b.length-(y+1)=b.length-1-y by omega]at h1
  rw[show a.length-x=(a.length-1-x)+1 by omega,show b.length-y=(b.length-1-y)+1 by omega,E9,h0,if_neg (by simpa using hne p q hp hq),if_neg (by omega),show b.length-(y+1)=b.length-1-y by omega]
 ·rw[show a.length-x=0 by omega,show b.length-y=(b.length-(y+1))+1 by omega,st_0n]
set_option maxHeartbeats 2000000 in
theorem I2(a b:List Int)(ha:a.length<=1000000)(hb:b.length<=1000000)(hn:edL a b<=400):EF Try.prog [] 8 [.one (zsD a),.one (zsD b)] (.part (.one (zsD (stL a b)))):=by
 have ht:=G0 a b ha hb
 have hlen:=(GP a b).2.2.1
 refine AT 100 Try.func8 rfl rfl rfl fun w D=>?_
 try refine A2 ?_
 refine A0 (A9 rfl rfl rfl rfl rfl .nil) ?_
 try refine A2 ?_
 refine A0 (A6 rfl rfl rfl rfl rfl (A6 rfl rfl rfl rfl rfl (A4 rfl rfl rfl (AW rfl (by kernel_rfl) (ht) ⟨(kn rfl),⟨(kn rfl),trivial⟩⟩) (A9 rfl rfl rfl rfl rfl .nil)))) ?_
 try refine A2 ?_
 refine AR ?_
 refine H2 1000 rfl rfl rfl rfl sl_22 ap_22 rfl rfl ?_
 refine B9 ?_
 refine AD ?_
 try refine A2 ?_
 refine A0 (A9 rfl rfl rfl rfl rfl (A9 rfl rfl rfl rfl rfl .nil)) ?_
 try refine A2 ?_
 refine A0 (A6 rfl rfl rfl rfl rfl (A4 rfl rfl rfl (AF rfl (kn rfl) (kn rfl) (by omega) (DC a b (Nat.zero_le _)) CA sle_25 esz_25 rfl) (A4 rfl rfl rfl (A7 rfl (kn rfl) one_22) (A4 rfl rfl rfl (AF rfl (kn rfl) (kn rfl) (by omega) (CN a b 0 (Nat.zero_le _)) AG sle_22 esz_22 rfl) (A4 rfl rfl rfl (A7 rfl (kn rfl) one_3) (A4 rfl rfl rfl (A3 rfl (kn rfl) (kn rfl) DG) .nil)))))) ?_
 try refine A2 ?_
 refine AE rfl (fun h=>absurd (of_decide_eq_true h) (by show ¬ (400:Int)<(edL a b:Int);omega)) (fun _=>?_)
 try refine A2 ?_
 refine BA (ι:={ t:List Int×Nat×Nat // t.2.1<=a.length/\t.2.2<=b.length/\stL a b=t.1++sA a b t.2.1 t.2.2 })
  (fun t=>[(0,.part (.one (zsD a))),(1,.part (.one (zsD b))),(5,.part (.one (DJ (tbL a b)))),(6,.own 1000),(7,zI (t.1.2.1:Int)),(8,zI (t.1.2.2:Int))])
  (fun _=>[]) (fun t=>[(1000,⟨3,1,t.1.1.length,t.1.1.flatMap zD1,false⟩)]) (fun t=>(a.length-t.1.2.1)+(b.length-t.1.2.2)) ⟨([],0,0),by dsimp only;omega,by dsimp only;omega,rfl⟩
  (fun K=>AO ⟨s_t,s_t,s_t,s_t,s_t,s_t,trivial⟩ trivial ⟨rfl,trivial⟩) ?_
 rintro⟨⟨out,x,y⟩,hx,hy,hs⟩
 dsimp only at hx hy hs ⊢
 have hout:out.length<=2000000:=by
  have:=congrArg List.length hs
  rw[List.length_append]at this
  omega
 obtain⟨p,hp⟩:=ET a x
 obtain⟨q,hq⟩:=ET b y
 try refine A2 ?_
 refine A0 (A6 rfl rfl rfl rfl rfl (A6 rfl rfl rfl rfl rfl (A4 rfl rfl rfl (AJ rfl (kn rfl) sle_22) (A4 rfl rfl rfl (A3 rfl (kn rfl) (kn rfl) BF) (A6 rfl rfl rfl rfl rfl (Walk.gd _ rfl rfl rfl (fun h=>A5 rfl (kn rfl)) (Walk.gd _ rfl rfl rfl (fun h=>A5 rfl (kn rfl)) (Walk.gd _ rfl rfl rfl (fun h=>AJ rfl (A1 rfl h) sle_22) (Walk.gd _ rfl rfl rfl (fun h=>A3 rfl (A1 rfl h) (A1 rfl h) BF) (A4 rfl rfl rfl (LL rfl (kn rfl) (fun hb=>A1 rfl hb)) .nil)))))))))) ?_
 try refine A2 ?_
 refine AE rfl (fun h=>?_) (fun h=>?_)
 ·rw[G4,G4,Bool.or_eq_true,decide_eq_true_eq,decide_eq_true_eq]at h
  try refine A2 ?_
  refine C8 BO (by kernel_rfl) (A6 rfl rfl rfl rfl rfl (A6 rfl rfl rfl rfl rfl (A4 rfl rfl rfl (AJ rfl (kn rfl) sle_22) (A4 rfl rfl rfl (A3 rfl (kn rfl) (kn rfl) BF) (A6 rfl rfl rfl rfl rfl (Walk.gd _ rfl rfl rfl (fun h=>A5 rfl (kn rfl)) (Walk.gd _ rfl rfl rfl (fun h=>A5 rfl (kn rfl)) (Walk.gd _ rfl rfl rfl (fun h=>AJ rfl (A1 rfl h) sle_22) (Walk.gd _ rfl rfl rfl (fun h=>A3 rfl (A1 rfl h) (A1 rfl h) BF) (A4 rfl rfl rfl (BC rfl (kn rfl) (fun hb=>A1 rfl hb)) (A6 rfl rfl rfl rfl rfl (Walk.gd _ rfl rfl rfl (fun h=>A5 rfl (kn rfl)) (Walk.gd _ rfl rfl rfl (fun h=>A5 rfl (kn rfl)) (Walk.gd _ rfl rfl rfl (fun h=>AF rfl (A1 rfl h) (A1 rfl h) (by omega) (hp (ltd (gl h))) AG sle_22 esz_22 rfl) (Walk.gd _ rfl rfl rfl (fun h=>A7 rfl (A1 rfl h) one_3) (Walk.gd _ rfl rfl rfl (fun h=>A5 rfl (kn rfl)) (Walk.gd _ rfl rfl rfl (fun h=>A5 rfl (kn rfl)) (Walk.gd _ rfl rfl rfl (fun h=>AF rfl (A1 rfl h) (A1 rfl h) (by omega) (hq (ltd (gr h))) AG sle_22 esz_22 rfl) (Walk.gd _ rfl rfl rfl (fun h=>A7 rfl (A1 rfl h) one_3) (Walk.gd _ rfl rfl rfl (fun h=>A3 rfl (A1 rfl h) (A1 rfl h) B2) (A4 rfl rfl rfl (BC rfl (kn rfl) (fun hb=>A1 rfl hb)) .nil))))))))))))))))))))) ?_
  try refine A2 ?_
  refine AE rfl (fun h1=>?_) (fun h1=>?_)
  ·have hxa:=ltd (gl (gl h1))
   have hyb:=ltd (gr (gl h1))
   obtain rfl:=of_decide_eq_true (gr h1)
   have hk:=IZ (hp hxa) (hq hyb)
   try refine A2 ?_
   refine AR ?_
   refine AL ?_
   refine AM (AH (ds:=[_]) [(0,_)] rfl ⟨rfl,(kn rfl),trivial⟩ rfl sl_22 sz_3 zr_3 (fun w D=>.cons (.cell _) (.nil _ _)) rfl rfl rfl rfl rfl) ?_
   refine B7 rfl rfl rfl rfl (kn rfl) rfl (kn rfl) sl_22 ap_22 rfl rfl (by omega) (by omega) ?_
   refine C2 (BU out 1) (CS out 1) ?_
   refine B9 ?_
   refine AD ?_
   try refine A2 ?_
   refine A0 (A6 rfl rfl rfl rfl rfl (A4 rfl rfl rfl (A3 rfl (kn rfl) (kn rfl) (AA (by first | omega | (dsimp only;omega)))) (A9 rfl rfl rfl rfl rfl .nil))) ?_
   try refine A2 ?_
   refine A0 (A6 rfl rfl rfl rfl rfl (A4 rfl rfl rfl (A3 rfl (kn rfl) (kn rfl) (AA (by first | omega | (dsimp only;omega)))) (A9 rfl rfl rfl rfl rfl .nil))) ?_
   try refine A2 ?_
   refine AS ⟨(out++[1],x+1,y+1),by dsimp only;omega,by dsimp only;omega,by dsimp only;rw[hs,hk,List.append_assoc];rfl⟩ (by dsimp only;omega) (fun K=>AO ⟨s_t,s_t,s_t,s_t,s_t,s_t,trivial⟩ trivial ⟨rfl,trivial⟩)
  have hne:∀ p' q',a[x]?=some p'->b[y]?=some q'->p'≠q':=fun p' q' h2 h3 e=>by
   have hxa:x<a.length:=(List.getElem?_eq_some_iff.1 h2).1
   have hyb:y<b.length:=(List.getElem?_eq_some_iff.1 h3).1
   have e1:=(hp hxa).symm.trans h2
   have e2:=(hq hyb).symm.trans h3
   injection e1 with e1
   injection e2 with e2
   rw[G4,G4,decide_eq_true hxa,decide_eq_true hyb,decide_eq_true (e1.trans (e.trans e2.symm))]at h1
   cases h1
  have hlx:x<a.length->y<b.length->(tbL a b)[x+1]?=some (tbR a b (x+1)):=fun h2 _=>DC a b h2
  try refine A2 ?_
  refine C8 BO (by kernel_rfl) (A6 rfl rfl rfl rfl rfl (A6 rfl rfl rfl rfl rfl (A4 rfl rfl rfl (AJ rfl (kn rfl) sle_22) (A4 rfl rfl rfl (A3 rfl (kn rfl) (kn rfl) BF) (A6 rfl rfl rfl rfl rfl (Walk.gd _ rfl rfl rfl (fun h=>A5 rfl (kn rfl)) (Walk.gd _ rfl rfl rfl (fun h=>A5 rfl (kn rfl)) (Walk.gd _ rfl rfl rfl (fun h=>AJ rfl (A1 rfl h) sle_22) (Walk.gd _ rfl rfl rfl (fun h=>A3 rfl (A1 rfl h) (A1 rfl h) B2) (Walk.gd _ rfl rfl rfl (fun h=>A5 rfl (A1 rfl h)) (Walk.gd _ rfl rfl rfl (fun h=>A5 rfl (kn rfl)) (Walk.gd _ rfl rfl rfl (fun h=>A5 rfl (kn rfl)) (Walk.gd _ rfl rfl rfl (fun h=>A3 rfl (A1 rfl h) (kn rfl) (AA (by first | omega | (dsimp only;omega)))) (Walk.gd _ rfl rfl rfl (fun h=>AF rfl (A1 rfl h) (A1 rfl h) (by omega) (DC a b (x:=x+1) (ltd (gl h))) CA sle_25 esz_25 rfl) (Walk.gd _ rfl rfl rfl (fun h=>A7 rfl (A1 rfl h) one_22) (Walk.gd _ rfl rfl rfl (fun h=>A5 rfl (kn rfl)) (Walk.gd _ rfl rfl rfl (fun h=>AF rfl (A1 rfl h) (A1 rfl h) (by omega) (CN a b (x+1) hy) AG sle_22 esz_22 rfl) (Walk.gd _ rfl rfl rfl (fun h=>A7 rfl (A1 rfl h) one_3) (Walk.gd _ rfl rfl rfl (fun h=>A5 rfl (kn rfl)) (Walk.gd _ rfl rfl rfl (fun h=>A5 rfl (kn rfl)) (Walk.gd _ rfl rfl rfl (fun h=>AF rfl (A1 rfl h) (A1 rfl h) (by omega) (DC a b hx) CA sle_25 esz_25 rfl) (Walk.gd _ rfl rfl rfl (fun h=>A7 rfl (A1 rfl h) one_22) (Walk.gd _ rfl rfl rfl (fun h=>A5 rfl (kn rfl)) (Walk.gd _ rfl rfl rfl (fun h=>A3 rfl (A1 rfl h) (kn rfl) (AA (by first | omega | (dsimp only;omega)))) (Walk.gd _ rfl rfl rfl (fun h=>AF rfl (A1 rfl h) (A1 rfl h) (by omega) (CN a b x (y:=y+1) (NJ (gr h) hy)) AG sle_22 esz_22 rfl) (Walk.gd _ rfl rfl rfl (fun h=>A7 rfl (A1 rfl h) one_3) (Walk.gd _ rfl rfl rfl (fun h=>A3 rfl (A1 rfl h) (A1 rfl h) H9) (Walk.gd _ rfl rfl rfl (fun h=>LL rfl (A1 rfl h) (fun hb=>A1 rfl (gb h hb))) (A4 rfl rfl rfl (BC rfl (kn rfl) (fun hb=>A1 rfl hb)) .nil))))))))))))))))))))))))))))) ?_
  try refine A2 ?_
  show E _ ((88,.is (.bool (decide ((x:Int)<(a.length:Int))&&(decide ((y:Int)=(b.length:Int))||decide ((dA a b (x+1) y:Int)<=(dA a b x (y+1):Int))))))::_) _ _ _
  refine AE rfl (fun h2=>?_) (fun h2=>?_)
  ·have hxa:=ltd (gl h2)
   have hc:y=b.length\/dA a b (x+1) y<=dA a b x (y+1):=by
    have:=gr h2
    rw[NK,NW,Bool.or_eq_true,decide_eq_true_eq,decide_eq_true_eq]at this
    exact this
   have hk:=M3 hxa hne hc hy
   try refine A2 ?_
   refine AR ?_
   refine AL ?_
   refine AM (AH (ds:=[_]) [(0,_)] rfl ⟨rfl,(kn rfl),trivial⟩ rfl sl_22 sz_3 zr_3 (fun w D=>.cons (.cell _) (.nil _ _)) rfl rfl rfl rfl rfl) ?_
   refine B7 rfl rfl rfl rfl (kn rfl) rfl (kn rfl) sl_22 ap_22 rfl rfl (by omega) (by omega) ?_
   refine C2 (BU out 2) (CS out 2) ?_
   refine B9 ?_
   refine AD ?_
   try refine A2 ?_
   refine A0 (A6 rfl rfl rfl rfl rfl (A4 rfl rfl rfl (A3 rfl (kn rfl) (kn rfl) (AA (by first | omega | (dsimp only;omega)))) (A9 rfl rfl rfl rfl rfl .nil))) ?_
   try refine A2 ?_
   refine AS ⟨(out++[2],x+1,y),by dsimp only;omega,hy,by dsimp only;rw[hs,hk,List.append_assoc];rfl⟩ (by dsimp only;omega) (fun K=>AO ⟨s_t,s_t,s_t,s_t,s_t,s_t,trivial⟩ trivial ⟨rfl,trivial⟩)
  rw[G4,NK,NW]at h2
  have hyb:y<b.length:=by
   rcases Nat.lt_or_ge y b.length with h3 | h3
   ·exact h3
   ·have e:y=b.length:=by omega
    rw[decide_eq_true e,Bool.true_or,Bool.and_true]at h2
    have:=of_decide_eq_false h2
    omega
  have hc:x<a.length->dA a b x (y+1)<dA a b (x+1) y:=fun h3=>by
   rw[decide_eq_true h3,Bool.true_and,Bool.or_eq_false_iff]at h2
   have:=of_decide_eq_false h2.2
   omega
  have hk:=N5 hyb hne hc hx
  try refine A2 ?_
  refine AR ?_
  refine AL ?_
  refine AM (AH (ds:=[_]) [(0,_)] rfl ⟨rfl,(kn rfl),trivial⟩ rfl sl_22 sz_3 zr_3 (fun w D=>.cons (.cell _) (.nil _ _)) rfl rfl rfl rfl rfl) ?_
  refine B7 rfl rfl rfl rfl (kn rfl) rfl (kn rfl) sl_22 ap_22 rfl rfl (by omega) (by omega) ?_
  refine C2 (BU out 3) (CS out 3) ?_
  refine B9 ?_
  refine AD ?_
  try refine A2 ?_
  refine A0 (A6 rfl rfl rfl rfl rfl (A4 rfl rfl rfl (A3 rfl (kn rfl) (kn rfl) (AA (by first | omega | (dsimp only;omega)))) (A9 rfl rfl rfl rfl rfl .nil))) ?_
  try refine A2 ?_
  refine AS ⟨(out++[3],x,y+1),hx,by dsimp only;omega,by dsimp only;rw[hs,hk,List.append_assoc];rfl⟩ (by dsimp only;omega) (fun K=>AO ⟨s_t,s_t,s_t,s_t,s_t,s_t,trivial⟩ trivial ⟨rfl,trivial⟩)
 rw[G4,G4,Bool.or_eq_false_iff]at h
 obtain rfl:x=a.length:=by have:=of_decide_eq_false h.1;omega
 obtain rfl:y=b.length:=by have:=of_decide_eq_false h.2;omega
 rw[L2,List.append_nil]at hs
 rw[<- hs]
 try refine A2 ?_
 refine AU 6 1000 rfl rfl rfl ?_
 refine A0 (A6 rfl rfl rfl rfl rfl (A9 rfl rfl rfl rfl rfl .nil)) ?_
 try refine A2 ?_
 exact AI rfl rfl (.tmp (kn rfl) (.nil)) (Imp.refl _) rfl
end Go.Proofs.Ytjpghcmlglhmbaa
