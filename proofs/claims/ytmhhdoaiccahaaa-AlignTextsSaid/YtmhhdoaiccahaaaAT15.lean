/- Part 15. Conditions: as each theorem says. -/
import Derived.Test.YtmhhdoaiccahaaaAT14
import Derived.Test.YtmhhdoaiccahaaaProg
set_option maxRecDepth 100000
namespace Go.Proofs.Ytmhhdoaiccahaaa
open Go.RowKit
abbrev rnW(l:List Rn):Rw:=⟨52,2,l.length,l.flatMap rnD,false⟩
abbrev YA(l:List Rn)(y:IV)(B1:BL)(R1:RL):Prop:=y=.own 1000/\B1=[]/\R1=[(1000,rnW l)]
theorem YA.tidy{l l':List Rn}(y:IV)(B1:BL)(R1:RL)(h:YA l y B1 R1):PG [] [(1000,rnW l')] y B1 R1:=by
 obtain⟨rfl,rfl,rfl⟩:=h
 exact⟨rfl,rfl,rfl,rfl⟩
def Sm(l:List Rn):Prop:=∀ p∈l,-1000000000000<=p.2/\p.2<=1000000000000
theorem CT(l:List Rn)(k c:Int)(hl:l.length<=10000000)(hs:Sm l)(hc : -1000000000000<=c/\c<=1000000000000):EG Try.prog [] 20 [.own 1000,.part (zP k),.part (zP c)] [] [(1000,rnW l)] (YA (BD l k c)):=by
 refine JD 43 Try.func20 rfl rfl rfl fun w D bor mb=>?_
 try refine A1 ?_
 refine A0 (A7 rfl rfl rfl rfl rfl .nil) ?_
 try refine A1 ?_
 by_cases h0:c=0
 ·subst h0
  refine A0 (A5 rfl rfl rfl rfl rfl (A3 rfl rfl rfl (C0 rfl (kn rfl) rfl sle_38) (A3 rfl rfl rfl (A4 rfl (kn rfl) (kn rfl) (AN (by first | omega | (dsimp only;omega)))) (A7 rfl rfl rfl rfl rfl .nil)))) ?_
  try refine A1 ?_
  refine A0 (A5 rfl rfl rfl rfl rfl (A3 rfl rfl rfl (A4 rfl (kn rfl) (kn rfl) B4) (A7 rfl rfl rfl rfl rfl .nil))) ?_
  try refine A1 ?_
  refine AC rfl (fun _=>?_) (fun h=>absurd rfl (of_decide_eq_false h))
  try refine A1 ?_
  refine A0 (A5 rfl rfl rfl rfl rfl (A7 rfl rfl rfl rfl rfl .nil)) ?_
  try refine A1 ?_
  exact BX [] [(1000,rnW l)] rfl rfl trivial ⟨rfl,trivial⟩ ⟨rfl,rfl,by rw[BY]⟩
 rcases DY l with rfl | ⟨m,k',c',rfl⟩
 ·have e:BD [] k c=[]++[(k,c)]:=CE h0
  refine A0 (A5 rfl rfl rfl rfl rfl (A3 rfl rfl rfl (C0 rfl (kn rfl) rfl sle_38) (A3 rfl rfl rfl (A4 rfl (kn rfl) (kn rfl) (AN (by first | omega | (dsimp only;omega)))) (A7 rfl rfl rfl rfl rfl .nil)))) ?_
  try refine A1 ?_
  refine A0 (A5 rfl rfl rfl rfl rfl (A3 rfl rfl rfl (A4 rfl (kn rfl) (kn rfl) B4) (A7 rfl rfl rfl rfl rfl .nil))) ?_
  try refine A1 ?_
  refine AC rfl (fun h=>absurd (of_decide_eq_true h) h0) (fun _=>?_)
  try refine A1 ?_
  refine A0 (A5 rfl rfl rfl rfl rfl (A3 rfl rfl rfl (A4 rfl (kn rfl) (kn rfl) EK) (A5 rfl rfl rfl rfl rfl (Walk.gd _ rfl rfl rfl (fun h=>A6 rfl (kn rfl)) (Walk.gd _ rfl rfl rfl (fun h=>A6 rfl (kn rfl)) (Walk.gd _ rfl rfl rfl (fun h=>AK rfl (A2 rfl h) rfl (A2 rfl h) (absurd h (by decide)) sle_38 esz_38) (Walk.gd _ rfl rfl rfl (fun h=>BO rfl (A2 rfl h) off_52_0) (Walk.gd _ rfl rfl rfl (fun h=>AT rfl (A2 rfl h) rfl (show _=some (zC 0) from absurd h (by decide)) one_3) (Walk.gd _ rfl rfl rfl (fun h=>A6 rfl (kn rfl)) (Walk.gd _ rfl rfl rfl (fun h=>A4 rfl (A2 rfl h) (A2 rfl h) B4) (A3 rfl rfl rfl (BH rfl (kn rfl) (fun hb=>A2 rfl hb)) (A7 rfl rfl rfl rfl rfl .nil)))))))))))) ?_
  try refine A1 ?_
  refine AC rfl (fun h=>absurd (gl h) (by decide)) (fun _=>?_)
  try refine A1 ?_
  refine AG ?_
  refine AI ?_
  refine AI ?_
  refine AI ?_
  refine AJ (C4 (ds:=[_,_]) [(0,_),(1,_)] rfl ⟨rfl,(kn rfl),⟨rfl,(kn rfl),trivial⟩⟩ rfl pl_52 zr_52 (fun w D=>.cons (.cell _) (.cons (.cell _) (.nil _ _))) rfl) ?_
  refine AJ (AD (ds:=[_,_]) [(0,_)] rfl ⟨rfl,(kn rfl),trivial⟩ rfl sl_38 sz_52 zr_52 (fun w D=>.cons (.cell _) (.cons (.cell _) (.nil _ _))) rfl rfl rfl rfl rfl) ?_
  refine AW rfl rfl rfl rfl (kn rfl) rfl (kn rfl) sl_38 ap_38 rfl rfl (by omega) (by omega) ?_
  refine BG (CD ([]:List Rn) (k,c)) (IR ([]:List Rn) k c) ?_
  refine B5 ?_
  refine AA ?_
  try refine A1 ?_
  exact BX [] [(1000,rnW (([]:List Rn)++[(k,c)]))] rfl rfl trivial ⟨rfl,trivial⟩ ⟨rfl,rfl,by rw[e]⟩
 ·have hml:(m++[(k',c')]).length=m.length+1:=by simp
  have hg:=OM m k' c'
  have hfl:=DX (m++[(k',c')])
  have hb : -1000000000000<=c'/\c'<=1000000000000:=hs (k',c') (by simp)
  rw[hml]at hl hfl
  refine BG hml rfl ?_
  refine AG ?_
  refine AI ?_
  refine AJ (C0 rfl (kn rfl) rfl sle_38) ?_
  refine AJ (A4 rfl (kn rfl) (kn rfl) (AN (by first | omega | (dsimp only;omega)))) ?_
  rw[show((m.length+1:Nat):Int)-1=(m.length:Int) by omega]
  refine B5 ?_
  refine AA ?_
  try refine A1 ?_
  refine A0 (A5 rfl rfl rfl rfl rfl (A3 rfl rfl rfl (A4 rfl (kn rfl) (kn rfl) B4) (A7 rfl rfl rfl rfl rfl .nil))) ?_
  try refine A1 ?_
  refine AC rfl (fun h=>absurd (of_decide_eq_true h) h0) (fun _=>?_)
  try refine A1 ?_
  refine A0 (A5 rfl rfl rfl rfl rfl (A3 rfl rfl rfl (A4 rfl (kn rfl) (kn rfl) EK) (A5 rfl rfl rfl rfl rfl (Walk.gd _ rfl rfl rfl (fun h=>A6 rfl (kn rfl)) (Walk.gd _ rfl rfl rfl (fun h=>A6 rfl (kn rfl)) (Walk.gd _ rfl rfl rfl (fun h=>AK rfl (A2 rfl h) rfl (A2 rfl h) ⟨by omega,by omega⟩ sle_38 esz_38) (Walk.gd _ rfl rfl rfl (fun h=>BO rfl (A2 rfl h) off_52_0) (Walk.gd _ rfl rfl rfl (fun h=>AT rfl (A2 rfl h) rfl (by simpa using hg.2) one_3) (Walk.gd _ rfl rfl rfl (fun h=>A6 rfl (kn rfl)) (Walk.gd _ rfl rfl rfl (fun h=>A4 rfl (A2 rfl h) (A2 rfl h) B4) (A3 rfl rfl rfl (BH rfl (kn rfl) (fun hb=>A2 rfl hb)) (A7 rfl rfl rfl rfl rfl .nil)))))))))))) ?_
  try refine A1 ?_
  refine AC rfl (fun h=>?_) (fun h=>?_)
  ·obtain rfl:=of_decide_eq_true (gr h)
   have e:=CA (m:=m) (k:=k') (c':=c') h0
   have hst:=N5 m k' c' (c'+c)
   try refine A1 ?_
   refine AG ?_
   refine AI ?_
   refine AI ?_
   refine AJ (AK rfl (kn rfl) rfl (kn rfl) ⟨by omega,by omega⟩ sle_38 esz_38) ?_
   refine AJ (BO rfl (kn rfl) off_52_1) ?_
   refine AJ (AT rfl (kn rfl) rfl (by simpa using hg.1) one_3) ?_
   refine AI ?_
   refine AJ (A4 rfl (kn rfl) (kn rfl) (A9 (by first | omega | (dsimp only;omega)))) ?_
   refine AJ (AK rfl (kn rfl) rfl (kn rfl) ⟨by omega,by omega⟩ sle_38 esz_38) ?_
   refine AJ (BO rfl (kn rfl) off_52_1) ?_
   refine B8 (ds':=(m++[(k',c'+c)]).flatMap rnD) rfl rfl rfl (kn rfl) rfl (kn rfl) rfl (by rw[hfl];omega) sz_3 (by simpa using hst) ?_ rfl
   refine AA ?_
   try refine A1 ?_
   refine BG (show m.length+1=(m++[(k',c'+c)]).length by simp) rfl ?_
   refine A0 (A5 rfl rfl rfl rfl rfl (A7 rfl rfl rfl rfl rfl .nil)) ?_
   try refine A1 ?_
   exact BX [] [(1000,rnW (m++[(k',c'+c)]))] rfl rfl trivial ⟨rfl,trivial⟩ ⟨rfl,rfl,by rw[e]⟩
  ·have hk:k'≠k:=fun e=>by
    rw[decide_eq_true e,decide_eq_true (show(0:Int)<=(m.length:Int) by omega)]at h
    cases h
   have e:=DN (m:=m) (k:=k) (k':=k') (c':=c') h0 hk
   refine BG hml.symm rfl ?_
   try refine A1 ?_
   refine AG ?_
   refine AI ?_
   refine AI ?_
   refine AI ?_
   refine AJ (C4 (ds:=[_,_]) [(0,_),(1,_)] rfl ⟨rfl,(kn rfl),⟨rfl,(kn rfl),trivial⟩⟩ rfl pl_52 zr_52 (fun w D=>.cons (.cell _) (.cons (.cell _) (.nil _ _))) rfl) ?_
   refine AJ (AD (ds:=[_,_]) [(0,_)] rfl ⟨rfl,(kn rfl),trivial⟩ rfl sl_38 sz_52 zr_52 (fun w D=>.cons (.cell _) (.cons (.cell _) (.nil _ _))) rfl rfl rfl rfl rfl) ?_
   refine AW rfl rfl rfl rfl (kn rfl) rfl (kn rfl) sl_38 ap_38 rfl rfl (by omega) (by omega) ?_
   refine BG (CD (m++[(k',c')]) (k,c)) (IR (m++[(k',c')]) k c) ?_
   refine B5 ?_
   refine AA ?_
   try refine A1 ?_
   exact BX [] [(1000,rnW ((m++[(k',c')])++[(k,c)]))] rfl rfl trivial ⟨rfl,trivial⟩ ⟨rfl,rfl,by rw[e]⟩
def frz(a b:List Int)(d i:Nat):Nat:=fr (sm a b) a.length d i
theorem EW(a b:List Int){d i:Nat}(h:i<=d):frz a b d i<=a.length+d:=(JI (fun x y h=>HE a b x y h) d i h).2
def frw(a b:List Int)(d:Nat):List Int:=(List.range (d+1)).map fun i=>(frz a b d i:Int)
def CK(a b:List Int)(n:Nat):List (List Int):=(List.range n).map (frw a b)
theorem LV(a b:List Int)(d:Nat):(frw a b d).length=d+1:=by simp[frw]
theorem DU(a b:List Int)(n:Nat):(CK a b n).length=n:=by simp[CK]
theorem FM(a b:List Int){d i:Nat}(h:i<=d):(frw a b d)[i]?=some (frz a b d i:Int):=CW _ (by omega)
theorem JM(a b:List Int){n d:Nat}(h:d<n):(CK a b n)[d]?=some (frw a b d):=CW _ h
theorem HW(a b:List Int)(n:Nat):CK a b (n+1)=CK a b n++[frw a b n]:=by simp[CK,List.range_succ]
theorem JV(l:List Int)(x:Nat):x<l.length->l[((l.length:Int)-1-(x:Int)).toNat]?=some (fe l x):=fun h=>by
 rw[show((l.length:Int)-1-(x:Int)).toNat=l.length-1-x by omega]
 unfold fe
 rw[List.getD_eq_getElem?_getD,List.getElem?_eq_getElem (by omega)]
 rfl
theorem K4(a b:List Int)(x y:Nat)(kk:Int)(hk:(x:Int)-kk=(y:Int))(ha:a.length<=1000000)(hb:b.length<=1000000)(hx:x<=10000000)(hy:y<=10000000):EF Try.prog [] 28 [.one (zsD a),.one (zsD b),zP (x:Int),zP kk] (.part (zP (alk (sm a b) a.length x y:Int))):=by
 obtain⟨J,j1,j2,j3,j4⟩:=IX (N:=a.length) (fun x y h=>HE a b x y h) a.length x y (by omega)
 rw[j1]
 refine AU 45 Try.func28 rfl rfl rfl fun w D=>?_
 try refine A1 ?_
 refine A0 (A7 rfl rfl rfl rfl rfl .nil) ?_
 try refine A1 ?_
 refine B7 (ι:={ j:Nat // j<=J })
  (fun j=>[(0,.part (.one (zsD a))),(1,.part (.one (zsD b))),(2,zI ((x+j.1:Nat):Int)),(3,zI kk)])
  (fun _=>[]) (fun _=>[]) (fun j=>J-j.1) ⟨0,Nat.zero_le _⟩
  (fun K=>AE ⟨s_t,s_t,s_t,s_t,trivial⟩ trivial trivial) ?_
 rintro⟨j,hj⟩
 dsimp only at hj ⊢
 have ha1:=JV a (x+j)
 have hb1:=JV b (y+j)
 try refine A1 ?_
 refine C2 BP (by kernel_rfl) (A5 rfl rfl rfl rfl rfl (A5 rfl rfl rfl rfl rfl (A3 rfl rfl rfl (AO rfl (kn rfl) sle_41) (A3 rfl rfl rfl (A4 rfl (kn rfl) (kn rfl) B9) (A5 rfl rfl rfl rfl rfl (Walk.gd _ rfl rfl rfl (fun h=>A6 rfl (kn rfl)) (Walk.gd _ rfl rfl rfl (fun h=>A6 rfl (kn rfl)) (Walk.gd _ rfl rfl rfl (fun h=>A4 rfl (A2 rfl h) (A2 rfl h) (AN (by omega))) (Walk.gd _ rfl rfl rfl (fun h=>A6 rfl (kn rfl)) (Walk.gd _ rfl rfl rfl (fun h=>AO rfl (A2 rfl h) sle_41) (Walk.gd _ rfl rfl rfl (fun h=>A4 rfl (A2 rfl h) (A2 rfl h) B9) (A3 rfl rfl rfl (BH rfl (kn rfl) (fun hb=>A2 rfl hb)) (A5 rfl rfl rfl rfl rfl (Walk.gd _ rfl rfl rfl (fun h=>A6 rfl (kn rfl)) (Walk.gd _ rfl rfl rfl (fun h=>A6 rfl (kn rfl)) (Walk.gd _ rfl rfl rfl (fun h=>AO rfl (A2 rfl h) sle_41) (Walk.gd _ rfl rfl rfl (fun h=>A4 rfl (A2 rfl h) (kn rfl) (AN (by first | omega | (dsimp only;omega)))) (Walk.gd _ rfl rfl rfl (fun h=>A6 rfl (kn rfl)) (Walk.gd _ rfl rfl rfl (fun h=>A4 rfl (A2 rfl h) (A2 rfl h) (AN (by omega))) (Walk.gd _ rfl rfl rfl (fun h=>AH rfl (A2 rfl h) (A2 rfl h) (by have:=ltd (gl h);omega) (ha1 (ltd (gl h))) AS sle_41 esz_41 rfl) (Walk.gd _ rfl rfl rfl (fun h=>A8 rfl (A2 rfl h) one_3) (Walk.gd _ rfl rfl rfl (fun h=>A6 rfl (kn rfl)) (Walk.gd _ rfl rfl rfl (fun h=>A6 rfl (kn rfl)) (Walk.gd _ rfl rfl rfl (fun h=>AO rfl (A2 rfl h) sle_41) (Walk.gd _ rfl rfl rfl (fun h=>A4 rfl (A2 rfl h) (kn rfl) (AN (by first | omega | (dsimp only;omega)))) (Walk.gd _ rfl rfl rfl (fun h=>A6 rfl (kn rfl)) (Walk.gd _ rfl rfl rfl (fun h=>A4 rfl (A2 rfl h) (A2 rfl h) (AN (by omega))) (Walk.gd _ rfl rfl rfl (fun h=>A6 rfl (kn rfl)) (Walk.gd _ rfl rfl rfl (fun h=>A4 rfl (A2 rfl h) (A2 rfl h) (A9 (by omega))) (Walk.gd _ rfl rfl rfl (fun h=>AH (q:=fe b (y+j)) rfl (A2 rfl h) (A2 rfl h) (by have:=of_decide_eq_true (gr h);omega) (by have h1:=of_decide_eq_true (gr h);rw[show(b.length:Int)-1-((x+j:Nat):Int)+kk=(b.length:Int)-1-((y+j:Nat):Int) by omega];exact hb1 (by omega)) AS sle_41 esz_41 rfl) (Walk.gd _ rfl rfl rfl (fun h=>A8 rfl (A2 rfl h) one_3) (Walk.gd _ rfl rfl rfl (fun h=>A4 rfl (A2 rfl h) (A2 rfl h) B4) (A3 rfl rfl rfl (BH rfl (kn rfl) (fun hb=>A2 rfl hb)) .nil))))))))))))))))))))))))))))))))) ?_
 try refine A1 ?_
 refine AC rfl (fun h=>?_) (fun h=>?_)
 ·have h1:=ltd (gl (gl h))
  have h2:=of_decide_eq_true (gr (gl h))
  have h3:sm a b (x+j) (y+j)=true:=by
   rw[P5 a b _ _ h1 (by omega)]
   exact gr h
  have hlt:j<J:=by
   rcases Nat.lt_or_ge j J with h | h
   ·exact h
   ·obtain rfl:j=J:=by omega
    rw[j3]at h3;cases h3
  try refine A1 ?_
  refine A0 (A5 rfl rfl rfl rfl rfl (A3 rfl rfl rfl (A4 rfl (kn rfl) (kn rfl) (A9 (by first | omega | (dsimp only;omega)))) (A7 rfl rfl rfl rfl rfl .nil))) ?_
  try refine A1 ?_
  refine AF ⟨j+1,hlt⟩ (by dsimp only;omega) (fun K=>AE ⟨s_t,s_t,s_t,s_t,trivial⟩ trivial trivial)
 obtain rfl:j=J:=by
  rcases Nat.lt_or_ge j J with h1 | h1
  ·have h2:=j2 j h1
   unfold sm at h2
   simp only[Bool.and_eq_true,decide_eq_true_eq]at h2
   rw[HO,decide_eq_true h2.1.1,decide_eq_true (show((x+j:Nat):Int)-kk<(b.length:Int) by omega),decide_eq_true h2.2]at h
   cases h
  ·omega
 try refine A1 ?_
 refine A0 (A5 rfl rfl rfl rfl rfl (A7 rfl rfl rfl rfl rfl .nil)) ?_
 try refine A1 ?_
 exact AM rfl rfl (.tmp (kn rfl) (.nil)) (Imp.refl _) rfl
theorem RO{P:Program}{t:TypeId}{m:Int}(h:0<=m/\m<=4000000000000000000):D1 P .quo t (.int .i64 m) (.int .i64 2) (.int .i64 (m / 2)):=by
 have:=SG (P:=P) (t:=t) (k:=.i64) (m:=m) (n:=2) (by decide)
 rwa [Int.tdiv_eq_ediv_of_nonneg h.1,GN _ (by omega) (by omega)]at this
theorem S0{P:Program}{t:TypeId}{m:Int}(h:0<=m):D1 P .rem t (.int .i64 m) (.int .i64 2) (.int .i64 (m % 2)):=by
 have:=SH (P:=P) (t:=t) (k:=.i64) (m:=m) (n:=2) (by decide)
 rwa [Int.tmod_eq_emod_of_nonneg h]at this
def KU(a b:List Int):Nat->Nat->Nat
 | 0,_=>0
 | d+1,i=>edt (frz a b d) d i
theorem QM(a b:List Int){n i:Nat}(h:i<=n):KU a b n i<=a.length+n:=by
 cases n with
 | zero=>exact Nat.zero_le _
 | succ d=>
  have h1:=EW a b (d:=d) (i:=0) (Nat.zero_le _)
  have h2:=EW a b (d:=d) (i:=d) (Nat.le_refl _)
  show edt (frz a b d) d i<=_
  unfold edt
  split
  ·omega
  ·split
   ·omega
   ·have h3:=EW a b (d:=d) (i:=i-1) (by omega)
    have h4:=EW a b (d:=d) (i:=i) (by omega)
    omega
theorem M9(a b:List Int)(n i:Nat)(hn:n<=500)(hi:i<=n)(ha:a.length<=1000000):EF Try.prog [] 30 [.one (ER (CK a b n)),zP (i:Int)] (.part (zP (KU a b n i:Int))):=by
 have hfl:=DU a b n
 refine AU 42 Try.func30 rfl rfl rfl fun w D=>?_
 try refine A1 ?_
 refine A0 (A7 rfl rfl rfl rfl rfl .nil) ?_
 try refine A1 ?_
 refine A0 (A5 rfl rfl rfl rfl rfl (A3 rfl rfl rfl (AO rfl (kn rfl) sle_54) (A3 rfl rfl rfl (A4 rfl (kn rfl) (kn rfl) B4) .nil))) ?_
 try refine A1 ?_
 cases n with
 | zero=>
  refine AC rfl (fun _=>?_) (fun h=>absurd (show((CK a b 0).length:Int)=0 from rfl) (of_decide_eq_false h))
  try refine A1 ?_
  refine A0 (A7 rfl rfl rfl rfl rfl .nil) ?_
  try refine A1 ?_
  exact AM rfl rfl (.tmp (kn rfl) (.nil)) (Imp.refl _) rfl
 | succ d=>
  refine AC rfl (fun h=>?_) (fun _=>?_)
  ·have:=of_decide_eq_true h
   omega
  rw[hfl]
  have hlast:=JM a b (n:=d+1) (d:=d) (by omega)
  have hll:=LV a b d
  have hd0:=EW a b (d:=d) (i:=0) (Nat.zero_le _)
  have hdd:=EW a b (d:=d) (i:=d) (Nat.le_refl _)
  try refine A1 ?_
  refine AG ?_
  refine AI ?_
  refine AI ?_
  refine AJ (AO rfl (kn rfl) sle_54) ?_
  refine AJ (A4 rfl (kn rfl) (kn rfl) (AN (by first | omega | (dsimp only;omega)))) ?_
  rw[hfl,show((d+1:Nat):Int)-1=(d:Int) by omega]
  refine AJ (AH rfl (kn rfl) (kn rfl) (by omega) hlast D7 sle_54 esz_54 rfl) ?_
  refine AJ (A8 rfl (kn rfl) one_41) ?_
  refine B5 ?_
  refine AA ?_
  try refine A1 ?_
  refine A0 (A5 rfl rfl rfl rfl rfl .nil) ?_
  try refine A1 ?_
  refine A0 (A3 rfl rfl rfl (A4 rfl (kn rfl) (kn rfl) B4) (A7 rfl rfl rfl rfl rfl .nil)) ?_
  try refine A1 ?_
  refine AC rfl (fun h=>?_) (fun h=>?_)
  ·obtain rfl:i=0:=by have:=of_decide_eq_true h;omega
   try refine A1 ?_
   refine A0 (A5 rfl rfl rfl rfl rfl (A3 rfl rfl rfl (AH rfl (kn rfl) (kn rfl) (by omega) (FM a b (Nat.zero_le d)) AS sle_41 esz_41 rfl) (A3 rfl rfl rfl (A8 rfl (kn rfl) one_3) (A7 rfl rfl rfl rfl rfl .nil)))) ?_
   try refine A1 ?_
   exact AM rfl rfl (.tmp (kn rfl) (.nil)) (Imp.refl _) rfl
  have hi0:i≠0:=by have:=of_decide_eq_false h;omega
  obtain⟨k,rfl⟩:∃ k,i=k+1:=⟨i-1,by omega⟩
  have hk0:=EW a b (d:=d) (i:=k) (by omega)
  try refine A1 ?_
  refine A0 (A5 rfl rfl rfl rfl rfl (A3 rfl rfl rfl (AO rfl (kn rfl) sle_41) (A3 rfl rfl rfl (A4 rfl (kn rfl) (kn rfl) B4) (A7 rfl rfl rfl rfl rfl .nil)))) ?_
  try refine A1 ?_
  refine AC rfl (fun h=>?_) (fun h=>?_)
  ·rw[hll]at h
   obtain rfl:k=d:=by have:=of_decide_eq_true h;omega
   try refine A1 ?_
   refine AG ?_
   refine AI ?_
   refine AI ?_
   refine AJ (A4 rfl (kn rfl) (kn rfl) (AN (by first | omega | (dsimp only;omega)))) ?_
   rw[show((k+1:Nat):Int)-1=(k:Int) by omega]
   have hqk:(frw a b k)[((k:Nat):Int).toNat]?=some (frz a b k k:Int):=FM a b (Nat.le_refl k)
   refine AJ (AH rfl (kn rfl) (kn rfl) (by omega) hqk AS sle_41 esz_41 rfl) ?_
   refine AJ (A8 rfl (kn rfl) one_3) ?_
   refine AJ (A4 rfl (kn rfl) (kn rfl) (A9 (by first | omega | (dsimp only;omega)))) ?_
   refine B5 ?_
   refine AA ?_
   try refine A1 ?_
   exact AM rfl rfl (.tmp (kn rfl) (.nil)) (JK (by show(frz a b k k:Int)+1=(edt (frz a b k) k (k+1):Int);unfold edt;rw[if_neg (by omega),if_pos rfl];omega)) rfl
  rw[hll]at h
  have hkd:k+1<=d:=by have:=of_decide_eq_false h;omega
  try refine A1 ?_
  have hqk:(frw a b d)[(((k+1:Nat):Int)-1).toNat]?=some (frz a b d k:Int):=by
   rw[show(((k+1:Nat):Int)-1).toNat=k by omega]
   exact FM a b (by omega)
  refine C2 BP (by kernel_rfl) (A5 rfl rfl rfl rfl rfl (A5 rfl rfl rfl rfl rfl (A3 rfl rfl rfl (A4 rfl (kn rfl) (kn rfl) (AN (by first | omega | (dsimp only;omega)))) (A3 rfl rfl rfl (AH rfl (kn rfl) (kn rfl) (by omega) hqk AS sle_41 esz_41 rfl) (A3 rfl rfl rfl (A8 rfl (kn rfl) one_3) (A3 rfl rfl rfl (A4 rfl (kn rfl) (kn rfl) (A9 (by first | omega | (dsimp only;omega)))) (A5 rfl rfl rfl rfl rfl (A5 rfl rfl rfl rfl rfl (A3 rfl rfl rfl (AH rfl (kn rfl) (kn rfl) (by omega) (FM a b hkd) AS sle_41 esz_41 rfl) (A3 rfl rfl rfl (A8 rfl (kn rfl) one_3) (A3 rfl rfl rfl (SS rfl (kn rfl) (kn rfl)) (A7 rfl rfl rfl rfl rfl .nil)))))))))))) ?_
  try refine A1 ?_
  exact AM rfl rfl (.tmp (kn rfl) (.nil)) (JK (by show max ((frz a b d k:Int)+1) (frz a b d (k+1):Int)=(edt (frz a b d) d (k+1):Int);unfold edt;rw[if_neg (by omega),if_neg (by omega),Nat.add_sub_cancel];omega)) rfl
theorem gg{a b c:Bool}(h:((a&&b)&&c)=true):a=true/\b=true/\c=true:=by
 simp only[Bool.and_eq_true]at h
 exact⟨h.1.1,h.1.2,h.2⟩
theorem SU(a b:List Int)(d x y:Nat):(((decide ((0:Int)<=(x:Int)-(y:Int)+(d:Int))&&decide ((x:Int)-(y:Int)+(d:Int)<=2*(d:Int)))&&decide (((x:Int)-(y:Int)+(d:Int)) % 2=0))&&decide ((x:Int)<=(frz a b d ((((x:Int)-(y:Int)+(d:Int)) / 2).toNat):Int)))=wth (sm a b) d x y:=by
 rw[RM (N:=a.length) (fun x y h=>HE a b x y h),Bool.eq_iff_iff]
 simp only[Bool.and_eq_true,decide_eq_true_eq]
 constructor
 ·rintro⟨⟨⟨h1,h2⟩,h3⟩,h4⟩
  refine⟨by omega,by omega,by omega,?_⟩
  rw[show(((x:Int)-(y:Int)+(d:Int)) / 2).toNat=(x+d-y) / 2 by omega]at h4
  exact Int.ofNat_le.1 h4
 ·rintro⟨h1,h2,h3,h4⟩
  refine⟨⟨⟨by omega,by omega⟩,by omega⟩,?_⟩
  rw[show(((x:Int)-(y:Int)+(d:Int)) / 2).toNat=(x+d-y) / 2 by omega]
  exact Int.ofNat_le.2 h4
theorem FT(a b:List Int)(n d x y:Nat)(hn:n<=500)(hd:d<n)(hx:x<=10000000)(hy:y<=10000000):EF Try.prog [] 27 [.one (ER (CK a b n)),zP (d:Int),zP (x:Int),zP (y:Int)] (.part (bP (wth (sm a b) d x y))):=by
 have hrow:=JM a b hd
 have hel:(decide ((0:Int)<=(x:Int)-(y:Int)+(d:Int))&&decide ((x:Int)-(y:Int)+(d:Int)<=2*(d:Int)))=true->(frw a b d)[(((x:Int)-(y:Int)+(d:Int)) / 2).toNat]?=some (frz a b d ((((x:Int)-(y:Int)+(d:Int)) / 2).toNat):Int):=fun h=>by
  have h1:=of_decide_eq_true (gl h)
  have h2:=of_decide_eq_true (gr h)
  exact FM a b (by omega)
 refine AU 40 Try.func27 rfl rfl rfl fun w D=>?_
 try refine A1 ?_
 refine A0 (A7 rfl rfl rfl rfl rfl .nil) ?_
 try refine A1 ?_
 refine A0 (A5 rfl rfl rfl rfl rfl (A5 rfl rfl rfl rfl rfl (A3 rfl rfl rfl (A4 rfl (kn rfl) (kn rfl) (AN (by first | omega | (dsimp only;omega)))) (A5 rfl rfl rfl rfl rfl (A3 rfl rfl rfl (A4 rfl (kn rfl) (kn rfl) (A9 (by first | omega | (dsimp only;omega)))) (A7 rfl rfl rfl rfl rfl .nil)))))) ?_
 try refine A1 ?_
 refine A0 (A5 rfl rfl rfl rfl rfl (A3 rfl rfl rfl (A4 rfl (kn rfl) (kn rfl) EK) (A5 rfl rfl rfl rfl rfl (Walk.gd _ rfl rfl rfl (fun h=>A6 rfl (kn rfl)) (Walk.gd _ rfl rfl rfl (fun h=>A6 rfl (kn rfl)) (Walk.gd _ rfl rfl rfl (fun h=>A4 rfl (kn rfl) (A2 rfl h) (KX (by first | omega | (dsimp only;omega)))) (Walk.gd _ rfl rfl rfl (fun h=>A4 rfl (A2 rfl h) (A2 rfl h) IC) (A3 rfl rfl rfl (BH rfl (kn rfl) (fun hb=>A2 rfl hb)) (A5 rfl rfl rfl rfl rfl (Walk.gd _ rfl rfl rfl (fun h=>A6 rfl (kn rfl)) (Walk.gd _ rfl rfl rfl (fun h=>A4 rfl (A2 rfl h) (kn rfl) (S0 (of_decide_eq_true (gl h)))) (Walk.gd _ rfl rfl rfl (fun h=>A4 rfl (A2 rfl h) (kn rfl) B4) (A3 rfl rfl rfl (BH rfl (kn rfl) (fun hb=>A2 rfl hb)) (A5 rfl rfl rfl rfl rfl (Walk.gd _ rfl rfl rfl (fun h=>A6 rfl (kn rfl)) (Walk.gd _ rfl rfl rfl (fun h=>A6 rfl (kn rfl)) (Walk.gd _ rfl rfl rfl (fun h=>A6 rfl (kn rfl)) (Walk.gd _ rfl rfl rfl (fun h=>AH rfl (A2 rfl h) (A2 rfl h) (by omega) hrow D7 sle_54 esz_54 rfl) (Walk.gd _ rfl rfl rfl (fun h=>A8 rfl (A2 rfl h) one_41) (Walk.gd _ rfl rfl rfl (fun h=>A6 rfl (kn rfl)) (Walk.gd _ rfl rfl rfl (fun h=>A4 rfl (A2 rfl h) (kn rfl) (RO ⟨of_decide_eq_true (gg h).1,by have:=of_decide_eq_true (gg h).2.1;omega⟩)) (Walk.gd _ rfl rfl rfl (fun h=>AH rfl (A2 rfl h) (A2 rfl h) (by have:=of_decide_eq_true (gg h).1;omega) (hel (gl h)) AS sle_41 esz_41 rfl) (Walk.gd _ rfl rfl rfl (fun h=>A8 rfl (A2 rfl h) one_3) (Walk.gd _ rfl rfl rfl (fun h=>A4 rfl (A2 rfl h) (A2 rfl h) IC) (A3 rfl rfl rfl (BH rfl (kn rfl) (fun hb=>A2 rfl hb)) (A7 rfl rfl rfl rfl rfl .nil)))))))))))))))))))))))))) ?_
 try refine A1 ?_
 exact AM rfl rfl (.tmp (kn rfl) (.nil)) (IA (SU a b d x y)) rfl
abbrev SA(a b:List Int)(n:Nat):Rw:=⟨41,1,(CK a b n).length,(CK a b n).flatMap M3,false⟩
theorem L7(a b:List Int){d i:Nat}(h:i<=d):2*i<=frz a b d i+d:=by
 rcases Nat.lt_or_ge (2*i) d with h1 | h1
 ·omega
 ·have:=((JI (N:=a.length) (fun x y h=>HE a b x y h) d i h).1 (2*i-d) 0 (by omega)).1 (by rw[CH];omega)
  unfold frz
  omega
theorem SE(a b:List Int)(n i:Nat):frz a b n i=alk (sm a b) a.length (KU a b n i) (KU a b n i+n-2*i):=by
 cases n with
 | zero=>
  show alk (sm a b) a.length 0 0=alk (sm a b) a.length 0 (0+0-2*i)
  rw[show 0+0-2*i=0 by omega]
 | succ d=>rfl
theorem P8(a b:List Int){n i:Nat}(h:i<=n):2*i<=KU a b n i+n:=by
 cases n with
 | zero=>omega
 | succ d=>
  show 2*i<=edt (frz a b d) d i+(d+1)
  unfold edt
  split
  ·omega
  ·split
   ·have:=L7 a b (d:=d) (i:=d) (Nat.le_refl _)
    omega
   ·have:=L7 a b (d:=d) (i:=i) (by omega)
    omega
def nxT(a b:List Int)(n m:Nat):List Dat:=(List.range (n+1)).map fun j=>if j<m then zC (frz a b n j:Int)else zC 0
theorem PL(a b:List Int)(n m:Nat):(nxT a b n m).length=n+1:=by simp[nxT]
theorem NT(a b:List Int)(n:Nat):(List.replicate (n+1) [Value.int .i64 0]).flatten.map Dat.cell=nxT a b n 0:=by
 have h:nxT a b n 0=(List.range (n+1)).map fun _=>zC 0:=List.map_congr_left fun j _=>if_neg (by omega)
 rw[h,List.map_const']
 simp
theorem PK(a b:List Int)(n i:Nat):(nxT a b n i).set i (zC (frz a b n i:Int))=nxT a b n (i+1):=by
 have:=IW (n:=n+1) (i:=i) (fun j=>if j<i then zC (frz a b n j:Int)else zC 0) (fun j=>if j<i+1 then zC (frz a b n j:Int)else zC 0) fun j _ hn=>by
  by_cases h:j<i
  ·simp only[if_pos h,if_pos (show j<i+1 by omega)]
  ·simp only[if_neg h,if_neg (show ¬ j<i+1 by omega)]
 simpa[nxT]using this
theorem IN(a b:List Int)(n:Nat):nxT a b n (n+1)=((frw a b n).map (Value.int .i64)).map Dat.cell:=by
 have h:nxT a b n (n+1)=(List.range (n+1)).map fun j=>zC (frz a b n j:Int):=List.map_congr_left fun j hj=>if_pos (List.mem_range.1 hj)
 rw[h]
 simp[frw]
theorem JL(a b:List Int)(n:Nat):Dat.row 1 (n+1) (nxT a b n (n+1))=zsD (frw a b n):=by
 have h:nxT a b n (n+1)=(List.range (n+1)).map fun j=>zC (frz a b n j:Int):=List.map_congr_left fun j hj=>if_pos (List.mem_range.1 hj)
 unfold zsD
 rw[LV,FS (f:=zD1) (g:=zC) (fun _=>rfl),h]
 simp[frw]
set_option maxHeartbeats 1000000 in
theorem L1(a b:List Int)(n:Nat)(hn:n<=450)(ha:a.length<=1000000)(hb:b.length<=1000000):EO Try.prog [] 26 [.one (ER (CK a b n)),.one (zsD a),.one (zsD b)] 3 1 (n+1) ((frw a b n).map (.int .i64)):=by
 have hfl:=DU a b n
 refine JE 35 Try.func26 rfl rfl rfl fun w D=>?_
 try refine A1 ?_
 refine A0 (A7 rfl rfl rfl rfl rfl .nil) ?_
 try refine A1 ?_
 refine AG ?_
 refine AI ?_
 refine AJ (AO rfl (kn rfl) sle_54) ?_
 rw[show(((CK a b n).length:Nat):Int)=(n:Int) by rw[hfl]]
 refine B5 ?_
 refine AA ?_
 try refine A1 ?_
 refine AG ?_
 refine AI ?_
 refine AJ (A4 rfl (kn rfl) (kn rfl) (A9 (by first | omega | (dsimp only;omega)))) ?_
 rw[show((n:Int)+1)=((n+1:Nat):Int) from rfl]
 refine OC 1001 rfl rfl rfl rfl (kn rfl) (kn rfl) sl_41 ap_41 zr_3 (by omega) (by omega) (NT a b n) rfl rfl ?_
 refine B5 ?_
 refine AA ?_
 try refine A1 ?_
 refine A0 (A5 rfl rfl rfl rfl rfl (A3 rfl rfl rfl (C0 rfl (kn rfl) rfl sle_41) (A5 rfl rfl rfl rfl rfl .nil))) ?_
 try refine A1 ?_
 refine B7 (ι:={ i:Nat // i<=n+1 })
  (fun i=>[(0,.part (.one (ER (CK a b n)))),(1,.part (.one (zsD a))),(2,.part (.one (zsD b))),(7,zI (n:Int)),(8,.own 1001),(16,zI ((n+1:Nat):Int)),(17,zI (i.1:Int))])
  (fun _=>[]) (fun i=>[(1001,⟨3,1,n+1,nxT a b n i.1,false⟩)]) (fun i=>n+1-i.1) ⟨0,Nat.zero_le _⟩
  (fun K=>AE ⟨s_t,s_t,s_t,s_t,s_t,s_t,s_t,trivial⟩ trivial ⟨rfl,trivial⟩) ?_
 rintro⟨i,hi⟩
 dsimp only at hi ⊢
 have hnl:=PL a b n i
 try refine A1 ?_
 refine A0 (A3 rfl rfl rfl (A4 rfl (kn rfl) (kn rfl) B9) .nil) ?_
 try refine A1 ?_
 refine AC rfl (fun h=>?_) (fun h=>?_)
 ·have hin:i<=n:=by have:=ltd h;omega
  have hed:=M9 a b n i (by omega) hin ha
  have hel:=QM a b hin
  have hlo:=P8 a b hin
  have hal:=K4 a b (KU a b n i) (KU a b n i+n-2*i) (2*(i:Int)-(n:Int)) (by omega) ha hb (by omega) (by omega)
  rw[<- SE]at hal
  have hst:=PK a b n i
  try refine A1 ?_
  refine A0 (A5 rfl rfl rfl rfl rfl (A7 rfl rfl rfl rfl rfl .nil)) ?_
  try refine A1 ?_
  refine AG ?_
  refine AI ?_
  refine AI ?_
  refine AI ?_
  refine AI ?_
  refine AI ?_
  refine AI ?_
  refine AJ (B6 rfl (by kernel_rfl) (hed) ⟨(kn rfl),⟨(kn rfl),trivial⟩⟩) ?_
  refine AI ?_
  refine AJ (A4 rfl (kn rfl) (kn rfl) (KX (by first | omega | (dsimp only;omega)))) ?_
  refine AI ?_
  refine AJ (A4 rfl (kn rfl) (kn rfl) (AN (by first | omega | (dsimp only;omega)))) ?_
  refine AJ (B6 rfl (by kernel_rfl) (hal) ⟨(kn rfl),⟨(kn rfl),⟨(kn rfl),⟨(kn rfl),trivial⟩⟩⟩⟩) ?_
  refine AJ (AK rfl (kn rfl) rfl (kn rfl) ⟨by omega,by omega⟩ sle_41 esz_41) ?_
  refine B8 (ds':=nxT a b n (i+1)) rfl rfl rfl (kn rfl) rfl (kn rfl) rfl (by rw[hnl];omega) sz_3 (by simpa using hst) ?_ rfl
  refine AA ?_
  try refine A1 ?_
  refine A0 (A3 rfl rfl rfl (A4 rfl (kn rfl) (kn rfl) (A9 (by first | omega | (dsimp only;omega)))) (A5 rfl rfl rfl rfl rfl .nil)) ?_
  try refine A1 ?_
  refine AF ⟨i+1,by omega⟩ (by dsimp only;omega) (fun K=>AE ⟨s_t,s_t,s_t,s_t,s_t,s_t,s_t,trivial⟩ trivial ⟨rfl,trivial⟩)
 obtain rfl:i=n+1:=by have:=ltf h;omega
 try refine A1 ?_
 refine A0 (A5 rfl rfl rfl rfl rfl (A7 rfl rfl rfl rfl rfl .nil)) ?_
 try refine A1 ?_
 exact F4 rfl rfl rfl rfl (by rw[IN]) rfl
theorem PO(L:List (List Int))(hL:L.length<=1000):EF Try.prog [] 29 [.one (ER L)] (.part (zP ((L.length:Int)-1))):=by
 refine AU 6 Try.func29 rfl rfl rfl fun w D=>?_
 try refine A1 ?_
 refine A0 (A7 rfl rfl rfl rfl rfl .nil) ?_
 try refine A1 ?_
 refine A0 (A5 rfl rfl rfl rfl rfl (A3 rfl rfl rfl (AO rfl (kn rfl) sle_54) (A3 rfl rfl rfl (A4 rfl (kn rfl) (kn rfl) (AN (by first | omega | (dsimp only;omega)))) (A7 rfl rfl rfl rfl rfl .nil)))) ?_
 try refine A1 ?_
 exact AM rfl rfl (.tmp (kn rfl) (.nil)) (Imp.refl _) rfl
theorem HJ(a b:List Int)(d:Nat)(h:d<=edL a b):wth (sm a b) d a.length b.length=decide (d=edL a b):=by
 have hp:=J4 (s:=sm a b) a.length b.length
 unfold wth
 refine decide_eq_decide.2 ⟨fun h1=>?_,fun h1=>?_⟩
 ·have h2:=h1.1
  unfold edL at h ⊢
  omega
 ·subst h1
  unfold edL
  omega
set_option maxHeartbeats 1000000 in
theorem KV(a b:List Int)(ha:a.length<=1000000)(hb:b.length<=1000000)(hn:edL a b<=400):EF Try.prog [] 21 [.one (zsD a),.one (zsD b)] (.tup [.one (ER (CK a b (edL a b+1))),bP true]):=by
 refine AU 27 Try.func21 rfl rfl rfl fun w D=>?_
 try refine A1 ?_
 refine A0 (A7 rfl rfl rfl rfl rfl (A7 rfl rfl rfl rfl rfl .nil)) ?_
 try refine A1 ?_
 refine A0 (A7 rfl rfl rfl rfl rfl .nil) ?_
 try refine A1 ?_
 refine BW 6 1000 41 1 rfl rfl rfl ?_
 refine A0 (A7 rfl rfl rfl rfl rfl .nil) ?_
 try refine A1 ?_
 refine B7 (ι:={ d:Nat // d<=(edL a b) })
  (fun d=>[(0,.part (.one (zsD a))),(1,.part (.one (zsD b))),(6,.own 1000),(7,zI (d.1:Int))])
  (fun _=>[]) (fun d=>[(1000,SA a b d.1)]) (fun d=>(edL a b)-d.1) ⟨0,Nat.zero_le _⟩
  (fun K=>AE ⟨s_t,s_t,s_t,s_t,trivial⟩ trivial ⟨rfl,trivial⟩) ?_
 rintro⟨d,hd⟩
 dsimp only at hd ⊢
 try refine A1 ?_
 refine A0 (A5 rfl rfl rfl rfl rfl (A3 rfl rfl rfl (A4 rfl (kn rfl) (kn rfl) IC) .nil)) ?_
 try refine A1 ?_
 refine AC rfl (fun h=>?_) (fun h=>absurd (show(d:Int)<=400 by omega) (of_decide_eq_false h))
 have hnx:=L1 a b d (by omega) ha hb
 have hwi:=FT a b (d+1) d a.length b.length (by omega) (by omega) (by omega) (by omega)
 have hfl:=DU a b d
 have hfs:=HW a b d
 try refine A1 ?_
 refine AG ?_
 refine AI ?_
 refine AI ?_
 refine AI ?_
 refine AI ?_
 refine HK 1001 rfl rfl rfl rfl (by kernel_rfl) hnx (KnV.shows ⟨.inr ⟨_,_,kn rfl,rfl,rfl⟩,.inl (kn rfl),.inl (kn rfl),trivial⟩) rfl rfl ?_
 refine AL 16 1001 rfl rfl rfl ?_
 refine AJ (AD (ds:=[_]) [(0,_)] rfl ⟨rfl,(kn rfl),trivial⟩ rfl sl_54 sz_41 zr_41 (fun w D=>.cons (.cell _) (.nil _ _)) rfl rfl rfl rfl rfl) ?_
 refine AW rfl rfl rfl rfl (kn rfl) rfl (kn rfl) sl_35 ap_35 rfl rfl (by omega) (by omega) ?_
 refine BG (show _=(CK a b (d+1)).length by rw[hfs];simp) (show _=(CK a b (d+1)).flatMap M3 by rw[hfs,List.flatMap_append,<- IN,JL];rfl) ?_
 refine B5 ?_
 refine AA ?_
 try refine A1 ?_
 refine A0 (A5 rfl rfl rfl rfl rfl (A5 rfl rfl rfl rfl rfl (A5 rfl rfl rfl rfl rfl (A3 rfl rfl rfl (AO rfl (kn rfl) sle_41) (A5 rfl rfl rfl rfl rfl (A3 rfl rfl rfl (AO rfl (kn rfl) sle_41) (A3 rfl rfl rfl (LE rfl (by kernel_rfl) hwi (KnV.shows ⟨.inr ⟨_,_,kn rfl,rfl,rfl⟩,.inl (kn rfl),.inl (kn rfl),.inl (kn rfl),trivial⟩) (Far.is _)) .nil))))))) ?_
 try refine A1 ?_
 refine AC rfl (fun h1=>?_) (fun h1=>?_)
 ·rw[HJ a b d hd]at h1
  obtain rfl:=of_decide_eq_true h1
  try refine A1 ?_
  refine AL 6 1000 rfl rfl rfl ?_
  refine A0 (A5 rfl rfl rfl rfl rfl (A7 rfl rfl rfl rfl rfl (A7 rfl rfl rfl rfl rfl .nil))) ?_
  try refine A1 ?_
  exact AM rfl rfl (.tmp (kn rfl) (.tmp (kn rfl) (.nil))) (Imp.refl _) rfl
 rw[HJ a b d hd]at h1
 have hne:=of_decide_eq_false h1
 try refine A1 ?_
 refine A0 (A5 rfl rfl rfl rfl rfl (A3 rfl rfl rfl (A4 rfl (kn rfl) (kn rfl) (A9 (by first | omega | (dsimp only;omega)))) (A7 rfl rfl rfl rfl rfl .nil))) ?_
 try refine A1 ?_
 refine AF ⟨d+1,by omega⟩ (by dsimp only;omega) (fun K=>AE ⟨s_t,s_t,s_t,s_t,trivial⟩ trivial ⟨rfl,trivial⟩)
set_option maxHeartbeats 1000000 in
theorem MH(a b:List Int)(ha:a.length<=1000000)(hb:b.length<=1000000)(hn:400<edL a b):EF Try.prog [] 21 [.one (zsD a),.one (zsD b)] (.tup [.one JB,bP false]):=by
 refine AU 27 Try.func21 rfl rfl rfl fun w D=>?_
 try refine A1 ?_
 refine A0 (A7 rfl rfl rfl rfl rfl (A7 rfl rfl rfl rfl rfl .nil)) ?_
 try refine A1 ?_
 refine A0 (A7 rfl rfl rfl rfl rfl .nil) ?_
 try refine A1 ?_
 refine BW 6 1000 41 1 rfl rfl rfl ?_
 refine A0 (A7 rfl rfl rfl rfl rfl .nil) ?_
 try refine A1 ?_
 refine B7 (ι:={ d:Nat // d<=401 })
  (fun d=>[(0,.part (.one (zsD a))),(1,.part (.one (zsD b))),(6,.own 1000),(7,zI (d.1:Int))])
  (fun _=>[]) (fun d=>[(1000,SA a b d.1)]) (fun d=>401-d.1) ⟨0,Nat.zero_le _⟩
  (fun K=>AE ⟨s_t,s_t,s_t,s_t,trivial⟩ trivial ⟨rfl,trivial⟩) ?_
 rintro⟨d,hd⟩
 dsimp only at hd ⊢
 try refine A1 ?_
 refine A0 (A5 rfl rfl rfl rfl rfl (A3 rfl rfl rfl (A4 rfl (kn rfl) (kn rfl) IC) .nil)) ?_
 try refine A1 ?_
 refine AC rfl (fun h=>?_) (fun h=>?_)
 ·have h4:d<=400:=by have:=of_decide_eq_true h;omega
  have hnx:=L1 a b d (by omega) ha hb
  have hwi:=FT a b (d+1) d a.length b.length (by omega) (by omega) (by omega) (by omega)
  have hfl:=DU a b d
  have hfs:=HW a b d
  try refine A1 ?_
  refine AG ?_
  refine AI ?_
  refine AI ?_
  refine AI ?_
  refine AI ?_
  refine HK 1001 rfl rfl rfl rfl (by kernel_rfl) hnx (KnV.shows ⟨.inr ⟨_,_,kn rfl,rfl,rfl⟩,.inl (kn rfl),.inl (kn rfl),trivial⟩) rfl rfl ?_
  refine AL 16 1001 rfl rfl rfl ?_
  refine AJ (AD (ds:=[_]) [(0,_)] rfl ⟨rfl,(kn rfl),trivial⟩ rfl sl_54 sz_41 zr_41 (fun w D=>.cons (.cell _) (.nil _ _)) rfl rfl rfl rfl rfl) ?_
  refine AW rfl rfl rfl rfl (kn rfl) rfl (kn rfl) sl_35 ap_35 rfl rfl (by omega) (by omega) ?_
  refine BG (show _=(CK a b (d+1)).length by rw[hfs];simp) (show _=(CK a b (d+1)).flatMap M3 by rw[hfs,List.flatMap_append,<- IN,JL];rfl) ?_
  refine B5 ?_
  refine AA ?_
  try refine A1 ?_
  refine A0 (A5 rfl rfl rfl rfl rfl (A5 rfl rfl rfl rfl rfl (A5 rfl rfl rfl rfl rfl (A3 rfl rfl rfl (AO rfl (kn rfl) sle_41) (A5 rfl rfl rfl rfl rfl (A3 rfl rfl rfl (AO rfl (kn rfl) sle_41) (A3 rfl rfl rfl (LE rfl (by kernel_rfl) hwi (KnV.shows ⟨.inr ⟨_,_,kn rfl,rfl,rfl⟩,.inl (kn rfl),.inl (kn rfl),.inl (kn rfl),trivial⟩) (Far.is _)) .nil))))))) ?_
  try refine A1 ?_
  refine AC rfl (fun h1=>?_) (fun h1=>?_)
  ·rw[HJ a b d (by omega)]at h1
   have:=of_decide_eq_true h1
   omega
  try refine A1 ?_
  refine A0 (A5 rfl rfl rfl rfl rfl (A3 rfl rfl rfl (A4 rfl (kn rfl) (kn rfl) (A9 (by first | omega | (dsimp only;omega)))) (A7 rfl rfl rfl rfl rfl .nil))) ?_
  try refine A1 ?_
  refine AF ⟨d+1,by omega⟩ (by dsimp only;omega) (fun K=>AE ⟨s_t,s_t,s_t,s_t,trivial⟩ trivial ⟨rfl,trivial⟩)
 try refine A1 ?_
 refine A0 (A7 rfl rfl rfl rfl rfl (A7 rfl rfl rfl rfl rfl .nil)) ?_
 try refine A1 ?_
 exact AM rfl rfl (.tmp (kn rfl) (.tmp (kn rfl) (.nil))) (Imp.refl _) rfl
end Go.Proofs.Ytmhhdoaiccahaaa
