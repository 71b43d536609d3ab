/- Part 11. Conditions: as each theorem says. -/
import Derived.Test.YtjpghcmlglhmbaaMW10
import Derived.Test.YtjpghcmlglhmbaaProg
set_option maxRecDepth 100000
namespace Go.Proofs.Ytjpghcmlglhmbaa
open Go.RowKit
abbrev rnW(l:List Rn):Rw:=⟨45,2,l.length,l.flatMap rnD,false⟩
abbrev YA(l:List Rn)(y:IV)(B1:BL)(R1:RL):Prop:=y=.own 1000/\B1=[]/\R1=[(1000,rnW l)]
theorem YA.tidy{l l':List Rn}(y:IV)(B1:BL)(R1:RL)(h:YA l y B1 R1):O9 [] [(1000,rnW l')] y B1 R1:=by
 obtain⟨rfl,rfl,rfl⟩:=h
 exact⟨rfl,rfl,rfl,rfl⟩
def Sm(l:List Rn):Prop:=∀ p∈l,-1000000000000<=p.2/\p.2<=1000000000000
theorem CL(l:List Rn)(k c:Int)(hl:l.length<=10000000)(hs:Sm l)(hc : -1000000000000<=c/\c<=1000000000000):EG Try.prog [] 27 [.own 1000,.part (zP k),.part (zP c)] [] [(1000,rnW l)] (YA (B8 l k c)):=by
 refine K4 43 Try.func27 rfl rfl rfl fun w D bor mb=>?_
 try refine A1 ?_
 refine A0 (A6 rfl rfl rfl rfl rfl .nil) ?_
 try refine A1 ?_
 by_cases h0:c=0
 ·subst h0
  refine A0 (A5 rfl rfl rfl rfl rfl (A3 rfl rfl rfl (CI rfl (kn rfl) rfl sle_28) (A3 rfl rfl rfl (A4 rfl (kn rfl) (kn rfl) (AV (by first | omega | (dsimp only;omega)))) (A6 rfl rfl rfl rfl rfl .nil)))) ?_
  try refine A1 ?_
  refine A0 (A5 rfl rfl rfl rfl rfl (A3 rfl rfl rfl (A4 rfl (kn rfl) (kn rfl) B2) (A6 rfl rfl rfl rfl rfl .nil))) ?_
  try refine A1 ?_
  refine AC rfl (fun _=>?_) (fun h=>absurd rfl (of_decide_eq_false h))
  try refine A1 ?_
  refine A0 (A5 rfl rfl rfl rfl rfl (A6 rfl rfl rfl rfl rfl .nil)) ?_
  try refine A1 ?_
  exact CQ [] [(1000,rnW l)] rfl rfl trivial ⟨rfl,trivial⟩ ⟨rfl,rfl,by rw[BP]⟩
 rcases DH l with rfl | ⟨m,k',c',rfl⟩
 ·have e:B8 [] k c=[]++[(k,c)]:=C3 h0
  refine A0 (A5 rfl rfl rfl rfl rfl (A3 rfl rfl rfl (CI rfl (kn rfl) rfl sle_28) (A3 rfl rfl rfl (A4 rfl (kn rfl) (kn rfl) (AV (by first | omega | (dsimp only;omega)))) (A6 rfl rfl rfl rfl rfl .nil)))) ?_
  try refine A1 ?_
  refine A0 (A5 rfl rfl rfl rfl rfl (A3 rfl rfl rfl (A4 rfl (kn rfl) (kn rfl) B2) (A6 rfl rfl rfl rfl rfl .nil))) ?_
  try refine A1 ?_
  refine AC rfl (fun h=>absurd (of_decide_eq_true h) h0) (fun _=>?_)
  try refine A1 ?_
  refine A0 (A5 rfl rfl rfl rfl rfl (A3 rfl rfl rfl (A4 rfl (kn rfl) (kn rfl) ET) (A5 rfl rfl rfl rfl rfl (Walk.gd _ rfl rfl rfl (fun h=>AA rfl (kn rfl)) (Walk.gd _ rfl rfl rfl (fun h=>AA rfl (kn rfl)) (Walk.gd _ rfl rfl rfl (fun h=>BK rfl (A2 rfl h) rfl (A2 rfl h) (absurd h (by decide)) sle_28 esz_28) (Walk.gd _ rfl rfl rfl (fun h=>BJ rfl (A2 rfl h) off_45_0) (Walk.gd _ rfl rfl rfl (fun h=>C5 rfl (A2 rfl h) rfl (show _=some (zC 0) from absurd h (by decide)) one_3) (Walk.gd _ rfl rfl rfl (fun h=>AA rfl (kn rfl)) (Walk.gd _ rfl rfl rfl (fun h=>A4 rfl (A2 rfl h) (A2 rfl h) B2) (A3 rfl rfl rfl (BB rfl (kn rfl) (fun hb=>A2 rfl hb)) (A6 rfl rfl rfl rfl rfl .nil)))))))))))) ?_
  try refine A1 ?_
  refine AC rfl (fun h=>absurd (gl h) (by decide)) (fun _=>?_)
  try refine A1 ?_
  refine AF ?_
  refine AM ?_
  refine AM ?_
  refine AM ?_
  refine AK (CO (ds:=[_,_]) [(0,_),(1,_)] rfl ⟨rfl,(kn rfl),⟨rfl,(kn rfl),trivial⟩⟩ rfl pl_45 zr_45 (fun w D=>.cons (.cell _) (.cons (.cell _) (.nil _ _))) rfl) ?_
  refine AK (AQ (ds:=[_,_]) [(0,_)] rfl ⟨rfl,(kn rfl),trivial⟩ rfl sl_28 sz_45 zr_45 (fun w D=>.cons (.cell _) (.cons (.cell _) (.nil _ _))) rfl rfl rfl rfl rfl) ?_
  refine B4 rfl rfl rfl rfl (kn rfl) rfl (kn rfl) sl_28 ap_28 rfl rfl (by omega) (by omega) ?_
  refine CC (GQ ([]:List Rn) (k,c)) (F0 ([]:List Rn) k c) ?_
  refine B7 ?_
  refine AD ?_
  try refine A1 ?_
  exact CQ [] [(1000,rnW (([]:List Rn)++[(k,c)]))] rfl rfl trivial ⟨rfl,trivial⟩ ⟨rfl,rfl,by rw[e]⟩
 ·have hml:(m++[(k',c')]).length=m.length+1:=by simp
  have hg:=L1 m k' c'
  have hfl:=DE (m++[(k',c')])
  have hb : -1000000000000<=c'/\c'<=1000000000000:=hs (k',c') (by simp)
  rw[hml]at hl hfl
  refine CC hml rfl ?_
  refine AF ?_
  refine AM ?_
  refine AK (CI rfl (kn rfl) rfl sle_28) ?_
  refine AK (A4 rfl (kn rfl) (kn rfl) (AV (by first | omega | (dsimp only;omega)))) ?_
  rw[show((m.length+1:Nat):Int)-1=(m.length:Int) by omega]
  refine B7 ?_
  refine AD ?_
  try refine A1 ?_
  refine A0 (A5 rfl rfl rfl rfl rfl (A3 rfl rfl rfl (A4 rfl (kn rfl) (kn rfl) B2) (A6 rfl rfl rfl rfl rfl .nil))) ?_
  try refine A1 ?_
  refine AC rfl (fun h=>absurd (of_decide_eq_true h) h0) (fun _=>?_)
  try refine A1 ?_
  refine A0 (A5 rfl rfl rfl rfl rfl (A3 rfl rfl rfl (A4 rfl (kn rfl) (kn rfl) ET) (A5 rfl rfl rfl rfl rfl (Walk.gd _ rfl rfl rfl (fun h=>AA rfl (kn rfl)) (Walk.gd _ rfl rfl rfl (fun h=>AA rfl (kn rfl)) (Walk.gd _ rfl rfl rfl (fun h=>BK rfl (A2 rfl h) rfl (A2 rfl h) ⟨by omega,by omega⟩ sle_28 esz_28) (Walk.gd _ rfl rfl rfl (fun h=>BJ rfl (A2 rfl h) off_45_0) (Walk.gd _ rfl rfl rfl (fun h=>C5 rfl (A2 rfl h) rfl (by simpa using hg.2) one_3) (Walk.gd _ rfl rfl rfl (fun h=>AA rfl (kn rfl)) (Walk.gd _ rfl rfl rfl (fun h=>A4 rfl (A2 rfl h) (A2 rfl h) B2) (A3 rfl rfl rfl (BB rfl (kn rfl) (fun hb=>A2 rfl hb)) (A6 rfl rfl rfl rfl rfl .nil)))))))))))) ?_
  try refine A1 ?_
  refine AC rfl (fun h=>?_) (fun h=>?_)
  ·obtain rfl:=of_decide_eq_true (gr h)
   have e:=C0 (m:=m) (k:=k') (c':=c') h0
   have hst:=JW m k' c' (c'+c)
   try refine A1 ?_
   refine AF ?_
   refine AM ?_
   refine AM ?_
   refine AK (BK rfl (kn rfl) rfl (kn rfl) ⟨by omega,by omega⟩ sle_28 esz_28) ?_
   refine AK (BJ rfl (kn rfl) off_45_1) ?_
   refine AK (C5 rfl (kn rfl) rfl (by simpa using hg.1) one_3) ?_
   refine AM ?_
   refine AK (A4 rfl (kn rfl) (kn rfl) (AE (by first | omega | (dsimp only;omega)))) ?_
   refine AK (BK rfl (kn rfl) rfl (kn rfl) ⟨by omega,by omega⟩ sle_28 esz_28) ?_
   refine AK (BJ rfl (kn rfl) off_45_1) ?_
   refine D3 (ds':=(m++[(k',c'+c)]).flatMap rnD) rfl rfl rfl (kn rfl) rfl (kn rfl) rfl (by rw[hfl];omega) sz_3 (by simpa using hst) ?_ rfl
   refine AD ?_
   try refine A1 ?_
   refine CC (show m.length+1=(m++[(k',c'+c)]).length by simp) rfl ?_
   refine A0 (A5 rfl rfl rfl rfl rfl (A6 rfl rfl rfl rfl rfl .nil)) ?_
   try refine A1 ?_
   exact CQ [] [(1000,rnW (m++[(k',c'+c)]))] rfl rfl trivial ⟨rfl,trivial⟩ ⟨rfl,rfl,by rw[e]⟩
  ·have hk:k'≠k:=fun e=>by
    rw[decide_eq_true e,decide_eq_true (show(0:Int)<=(m.length:Int) by omega)]at h
    cases h
   have e:=D7 (m:=m) (k:=k) (k':=k') (c':=c') h0 hk
   refine CC hml.symm rfl ?_
   try refine A1 ?_
   refine AF ?_
   refine AM ?_
   refine AM ?_
   refine AM ?_
   refine AK (CO (ds:=[_,_]) [(0,_),(1,_)] rfl ⟨rfl,(kn rfl),⟨rfl,(kn rfl),trivial⟩⟩ rfl pl_45 zr_45 (fun w D=>.cons (.cell _) (.cons (.cell _) (.nil _ _))) rfl) ?_
   refine AK (AQ (ds:=[_,_]) [(0,_)] rfl ⟨rfl,(kn rfl),trivial⟩ rfl sl_28 sz_45 zr_45 (fun w D=>.cons (.cell _) (.cons (.cell _) (.nil _ _))) rfl rfl rfl rfl rfl) ?_
   refine B4 rfl rfl rfl rfl (kn rfl) rfl (kn rfl) sl_28 ap_28 rfl rfl (by omega) (by omega) ?_
   refine CC (GQ (m++[(k',c')]) (k,c)) (F0 (m++[(k',c')]) k c) ?_
   refine B7 ?_
   refine AD ?_
   try refine A1 ?_
   exact CQ [] [(1000,rnW ((m++[(k',c')])++[(k,c)]))] rfl rfl trivial ⟨rfl,trivial⟩ ⟨rfl,rfl,by rw[e]⟩
def frz(a b:List Int)(d i:Nat):Nat:=fr (sm a b) a.length d i
theorem DP(a b:List Int){d i:Nat}(h:i<=d):frz a b d i<=a.length+d:=(HH (fun x y h=>FO a b x y h) d i h).2
def frw(a b:List Int)(d:Nat):List Int:=(List.range (d+1)).map fun i=>(frz a b d i:Int)
def C9(a b:List Int)(n:Nat):List (List Int):=(List.range n).map (frw a b)
theorem IL(a b:List Int)(d:Nat):(frw a b d).length=d+1:=by simp[frw]
theorem CU(a b:List Int)(n:Nat):(C9 a b n).length=n:=by simp[C9]
theorem EB(a b:List Int){d i:Nat}(h:i<=d):(frw a b d)[i]?=some (frz a b d i:Int):=EZ _ (by omega)
theorem H6(a b:List Int){n d:Nat}(h:d<n):(C9 a b n)[d]?=some (frw a b d):=EZ _ h
theorem GE(a b:List Int)(n:Nat):C9 a b (n+1)=C9 a b n++[frw a b n]:=by simp[C9,List.range_succ]
theorem HK(l:List Int)(x:Nat):x<l.length->l[((l.length:Int)-1-(x:Int)).toNat]?=some (fe l x):=fun h=>by
 rw[show((l.length:Int)-1-(x:Int)).toNat=l.length-1-x by omega]
 unfold fe
 rw[List.getD_eq_getElem?_getD,List.getElem?_eq_getElem (by omega)]
 rfl
theorem H2(a b:List Int)(x y:Nat)(kk:Int)(hk:(x:Int)-kk=(y:Int))(ha:a.length<=1000000)(hb:b.length<=1000000)(hx:x<=10000000)(hy:y<=10000000):EF Try.prog [] 32 [.one (zsD a),.one (zsD b),zP (x:Int),zP kk] (.part (zP (alk (sm a b) a.length x y:Int))):=by
 obtain⟨J,j1,j2,j3,j4⟩:=GU (N:=a.length) (fun x y h=>FO a b x y h) a.length x y (by omega)
 rw[j1]
 refine AL 45 Try.func32 rfl rfl rfl fun w D=>?_
 try refine A1 ?_
 refine A0 (A6 rfl rfl rfl rfl rfl .nil) ?_
 try refine A1 ?_
 refine BC (ι:={ j:Nat // j<=J })
  (fun j=>[(0,.part (.one (zsD a))),(1,.part (.one (zsD b))),(2,zI ((x+j.1:Nat):Int)),(3,zI kk)])
  (fun _=>[]) (fun _=>[]) (fun j=>J-j.1) ⟨0,Nat.zero_le _⟩
  (fun K=>AH ⟨s_t,s_t,s_t,s_t,trivial⟩ trivial trivial) ?_
 rintro⟨j,hj⟩
 dsimp only at hj ⊢
 have ha1:=HK a (x+j)
 have hb1:=HK b (y+j)
 try refine A1 ?_
 refine CA CB (by kernel_rfl) (A5 rfl rfl rfl rfl rfl (A5 rfl rfl rfl rfl rfl (A3 rfl rfl rfl (AN rfl (kn rfl) sle_22) (A3 rfl rfl rfl (A4 rfl (kn rfl) (kn rfl) BU) (A5 rfl rfl rfl rfl rfl (Walk.gd _ rfl rfl rfl (fun h=>AA rfl (kn rfl)) (Walk.gd _ rfl rfl rfl (fun h=>AA rfl (kn rfl)) (Walk.gd _ rfl rfl rfl (fun h=>A4 rfl (A2 rfl h) (A2 rfl h) (AV (by omega))) (Walk.gd _ rfl rfl rfl (fun h=>AA rfl (kn rfl)) (Walk.gd _ rfl rfl rfl (fun h=>AN rfl (A2 rfl h) sle_22) (Walk.gd _ rfl rfl rfl (fun h=>A4 rfl (A2 rfl h) (A2 rfl h) BU) (A3 rfl rfl rfl (BB rfl (kn rfl) (fun hb=>A2 rfl hb)) (A5 rfl rfl rfl rfl rfl (Walk.gd _ rfl rfl rfl (fun h=>AA rfl (kn rfl)) (Walk.gd _ rfl rfl rfl (fun h=>AA rfl (kn rfl)) (Walk.gd _ rfl rfl rfl (fun h=>AN rfl (A2 rfl h) sle_22) (Walk.gd _ rfl rfl rfl (fun h=>A4 rfl (A2 rfl h) (kn rfl) (AV (by first | omega | (dsimp only;omega)))) (Walk.gd _ rfl rfl rfl (fun h=>AA rfl (kn rfl)) (Walk.gd _ rfl rfl rfl (fun h=>A4 rfl (A2 rfl h) (A2 rfl h) (AV (by omega))) (Walk.gd _ rfl rfl rfl (fun h=>AR rfl (A2 rfl h) (A2 rfl h) (by have:=ltd (gl h);omega) (ha1 (ltd (gl h))) AT sle_22 esz_22 rfl) (Walk.gd _ rfl rfl rfl (fun h=>AG rfl (A2 rfl h) one_3) (Walk.gd _ rfl rfl rfl (fun h=>AA rfl (kn rfl)) (Walk.gd _ rfl rfl rfl (fun h=>AA rfl (kn rfl)) (Walk.gd _ rfl rfl rfl (fun h=>AN rfl (A2 rfl h) sle_22) (Walk.gd _ rfl rfl rfl (fun h=>A4 rfl (A2 rfl h) (kn rfl) (AV (by first | omega | (dsimp only;omega)))) (Walk.gd _ rfl rfl rfl (fun h=>AA rfl (kn rfl)) (Walk.gd _ rfl rfl rfl (fun h=>A4 rfl (A2 rfl h) (A2 rfl h) (AV (by omega))) (Walk.gd _ rfl rfl rfl (fun h=>AA rfl (kn rfl)) (Walk.gd _ rfl rfl rfl (fun h=>A4 rfl (A2 rfl h) (A2 rfl h) (AE (by omega))) (Walk.gd _ rfl rfl rfl (fun h=>AR (q:=fe b (y+j)) rfl (A2 rfl h) (A2 rfl h) (by have:=of_decide_eq_true (gr h);omega) (by have h1:=of_decide_eq_true (gr h);rw[show(b.length:Int)-1-((x+j:Nat):Int)+kk=(b.length:Int)-1-((y+j:Nat):Int) by omega];exact hb1 (by omega)) AT sle_22 esz_22 rfl) (Walk.gd _ rfl rfl rfl (fun h=>AG rfl (A2 rfl h) one_3) (Walk.gd _ rfl rfl rfl (fun h=>A4 rfl (A2 rfl h) (A2 rfl h) B2) (A3 rfl rfl rfl (BB rfl (kn rfl) (fun hb=>A2 rfl hb)) .nil))))))))))))))))))))))))))))))))) ?_
 try refine A1 ?_
 refine AC rfl (fun h=>?_) (fun h=>?_)
 ·have h1:=ltd (gl (gl h))
  have h2:=of_decide_eq_true (gr (gl h))
  have h3:sm a b (x+j) (y+j)=true:=by
   rw[MR a b _ _ h1 (by omega)]
   exact gr h
  have hlt:j<J:=by
   rcases Nat.lt_or_ge j J with h | h
   ·exact h
   ·obtain rfl:j=J:=by omega
    rw[j3]at h3;cases h3
  try refine A1 ?_
  refine A0 (A5 rfl rfl rfl rfl rfl (A3 rfl rfl rfl (A4 rfl (kn rfl) (kn rfl) (AE (by first | omega | (dsimp only;omega)))) (A6 rfl rfl rfl rfl rfl .nil))) ?_
  try refine A1 ?_
  refine AO ⟨j+1,hlt⟩ (by dsimp only;omega) (fun K=>AH ⟨s_t,s_t,s_t,s_t,trivial⟩ trivial trivial)
 obtain rfl:j=J:=by
  rcases Nat.lt_or_ge j J with h1 | h1
  ·have h2:=j2 j h1
   unfold sm at h2
   simp only[Bool.and_eq_true,decide_eq_true_eq]at h2
   rw[OK,decide_eq_true h2.1.1,decide_eq_true (show((x+j:Nat):Int)-kk<(b.length:Int) by omega),decide_eq_true h2.2]at h
   cases h
  ·omega
 try refine A1 ?_
 refine A0 (A5 rfl rfl rfl rfl rfl (A6 rfl rfl rfl rfl rfl .nil)) ?_
 try refine A1 ?_
 exact AB rfl rfl (.tmp (kn rfl) (.nil)) (Imp.refl _) rfl
theorem NF{P:Program}{t:TypeId}{m:Int}(h:0<=m/\m<=4000000000000000000):CS P .quo t (.int .i64 m) (.int .i64 2) (.int .i64 (m / 2)):=by
 have:=NU (P:=P) (t:=t) (k:=.i64) (m:=m) (n:=2) (by decide)
 rwa [Int.tdiv_eq_ediv_of_nonneg h.1,F1 _ (by omega) (by omega)]at this
theorem N0{P:Program}{t:TypeId}{m:Int}(h:0<=m):CS P .rem t (.int .i64 m) (.int .i64 2) (.int .i64 (m % 2)):=by
 have:=NZ (P:=P) (t:=t) (k:=.i64) (m:=m) (n:=2) (by decide)
 rwa [Int.tmod_eq_emod_of_nonneg h]at this
def HV(a b:List Int):Nat->Nat->Nat
 | 0,_=>0
 | d+1,i=>edt (frz a b d) d i
theorem LP(a b:List Int){n i:Nat}(h:i<=n):HV a b n i<=a.length+n:=by
 cases n with
 | zero=>exact Nat.zero_le _
 | succ d=>
  have h1:=DP a b (d:=d) (i:=0) (Nat.zero_le _)
  have h2:=DP a b (d:=d) (i:=d) (Nat.le_refl _)
  show edt (frz a b d) d i<=_
  unfold edt
  split
  ·omega
  ·split
   ·omega
   ·have h3:=DP a b (d:=d) (i:=i-1) (by omega)
    have h4:=DP a b (d:=d) (i:=i) (by omega)
    omega
theorem JC(a b:List Int)(n i:Nat)(hn:n<=500)(hi:i<=n)(ha:a.length<=1000000):EF Try.prog [] 33 [.one (F7 (C9 a b n)),zP (i:Int)] (.part (zP (HV a b n i:Int))):=by
 have hfl:=CU a b n
 refine AL 42 Try.func33 rfl rfl rfl fun w D=>?_
 try refine A1 ?_
 refine A0 (A6 rfl rfl rfl rfl rfl .nil) ?_
 try refine A1 ?_
 refine A0 (A5 rfl rfl rfl rfl rfl (A3 rfl rfl rfl (AN rfl (kn rfl) sle_47) (A3 rfl rfl rfl (A4 rfl (kn rfl) (kn rfl) B2) .nil))) ?_
 try refine A1 ?_
 cases n with
 | zero=>
  refine AC rfl (fun _=>?_) (fun h=>absurd (show((C9 a b 0).length:Int)=0 from rfl) (of_decide_eq_false h))
  try refine A1 ?_
  refine A0 (A6 rfl rfl rfl rfl rfl .nil) ?_
  try refine A1 ?_
  exact AB rfl rfl (.tmp (kn rfl) (.nil)) (Imp.refl _) rfl
 | succ d=>
  refine AC rfl (fun h=>?_) (fun _=>?_)
  ·have:=of_decide_eq_true h
   omega
  rw[hfl]
  have hlast:=H6 a b (n:=d+1) (d:=d) (by omega)
  have hll:=IL a b d
  have hd0:=DP a b (d:=d) (i:=0) (Nat.zero_le _)
  have hdd:=DP a b (d:=d) (i:=d) (Nat.le_refl _)
  try refine A1 ?_
  refine AF ?_
  refine AM ?_
  refine AM ?_
  refine AK (AN rfl (kn rfl) sle_47) ?_
  refine AK (A4 rfl (kn rfl) (kn rfl) (AV (by first | omega | (dsimp only;omega)))) ?_
  rw[hfl,show((d+1:Nat):Int)-1=(d:Int) by omega]
  refine AK (AR rfl (kn rfl) (kn rfl) (by omega) hlast HI sle_47 esz_47 rfl) ?_
  refine AK (AG rfl (kn rfl) one_22) ?_
  refine B7 ?_
  refine AD ?_
  try refine A1 ?_
  refine A0 (A5 rfl rfl rfl rfl rfl .nil) ?_
  try refine A1 ?_
  refine A0 (A3 rfl rfl rfl (A4 rfl (kn rfl) (kn rfl) B2) (A6 rfl rfl rfl rfl rfl .nil)) ?_
  try refine A1 ?_
  refine AC rfl (fun h=>?_) (fun h=>?_)
  ·obtain rfl:i=0:=by have:=of_decide_eq_true h;omega
   try refine A1 ?_
   refine A0 (A5 rfl rfl rfl rfl rfl (A3 rfl rfl rfl (AR rfl (kn rfl) (kn rfl) (by omega) (EB a b (Nat.zero_le d)) AT sle_22 esz_22 rfl) (A3 rfl rfl rfl (AG rfl (kn rfl) one_3) (A6 rfl rfl rfl rfl rfl .nil)))) ?_
   try refine A1 ?_
   exact AB rfl rfl (.tmp (kn rfl) (.nil)) (Imp.refl _) rfl
  have hi0:i≠0:=by have:=of_decide_eq_false h;omega
  obtain⟨k,rfl⟩:∃ k,i=k+1:=⟨i-1,by omega⟩
  have hk0:=DP a b (d:=d) (i:=k) (by omega)
  try refine A1 ?_
  refine A0 (A5 rfl rfl rfl rfl rfl (A3 rfl rfl rfl (AN rfl (kn rfl) sle_22) (A3 rfl rfl rfl (A4 rfl (kn rfl) (kn rfl) B2) (A6 rfl rfl rfl rfl rfl .nil)))) ?_
  try refine A1 ?_
  refine AC rfl (fun h=>?_) (fun h=>?_)
  ·rw[hll]at h
   obtain rfl:k=d:=by have:=of_decide_eq_true h;omega
   try refine A1 ?_
   refine AF ?_
   refine AM ?_
   refine AM ?_
   refine AK (A4 rfl (kn rfl) (kn rfl) (AV (by first | omega | (dsimp only;omega)))) ?_
   rw[show((k+1:Nat):Int)-1=(k:Int) by omega]
   have hqk:(frw a b k)[((k:Nat):Int).toNat]?=some (frz a b k k:Int):=EB a b (Nat.le_refl k)
   refine AK (AR rfl (kn rfl) (kn rfl) (by omega) hqk AT sle_22 esz_22 rfl) ?_
   refine AK (AG rfl (kn rfl) one_3) ?_
   refine AK (A4 rfl (kn rfl) (kn rfl) (AE (by first | omega | (dsimp only;omega)))) ?_
   refine B7 ?_
   refine AD ?_
   try refine A1 ?_
   exact AB rfl rfl (.tmp (kn rfl) (.nil)) (HB (by show(frz a b k k:Int)+1=(edt (frz a b k) k (k+1):Int);unfold edt;rw[if_neg (by omega),if_pos rfl];omega)) rfl
  rw[hll]at h
  have hkd:k+1<=d:=by have:=of_decide_eq_false h;omega
  try refine A1 ?_
  have hqk:(frw a b d)[(((k+1:Nat):Int)-1).toNat]?=some (frz a b d k:Int):=by
   rw[show(((k+1:Nat):Int)-1).toNat=k by omega]
   exact EB a b (by omega)
  refine CA CB (by kernel_rfl) (A5 rfl rfl rfl rfl rfl (A5 rfl rfl rfl rfl rfl (A3 rfl rfl rfl (A4 rfl (kn rfl) (kn rfl) (AV (by first | omega | (dsimp only;omega)))) (A3 rfl rfl rfl (AR rfl (kn rfl) (kn rfl) (by omega) hqk AT sle_22 esz_22 rfl) (A3 rfl rfl rfl (AG rfl (kn rfl) one_3) (A3 rfl rfl rfl (A4 rfl (kn rfl) (kn rfl) (AE (by first | omega | (dsimp only;omega)))) (A5 rfl rfl rfl rfl rfl (A5 rfl rfl rfl rfl rfl (A3 rfl rfl rfl (AR rfl (kn rfl) (kn rfl) (by omega) (EB a b hkd) AT sle_22 esz_22 rfl) (A3 rfl rfl rfl (AG rfl (kn rfl) one_3) (A3 rfl rfl rfl (O2 rfl (kn rfl) (kn rfl)) (A6 rfl rfl rfl rfl rfl .nil)))))))))))) ?_
  try refine A1 ?_
  exact AB rfl rfl (.tmp (kn rfl) (.nil)) (HB (by show max ((frz a b d k:Int)+1) (frz a b d (k+1):Int)=(edt (frz a b d) d (k+1):Int);unfold edt;rw[if_neg (by omega),if_neg (by omega),Nat.add_sub_cancel];omega)) rfl
theorem gg{a b c:Bool}(h:((a&&b)&&c)=true):a=true/\b=true/\c=true:=by
 simp only[Bool.and_eq_true]at h
 exact⟨h.1.1,h.1.2,h.2⟩
theorem NR(a b:List Int)(d x y:Nat):(((decide ((0:Int)<=(x:Int)-(y:Int)+(d:Int))&&decide ((x:Int)-(y:Int)+(d:Int)<=2*(d:Int)))&&decide (((x:Int)-(y:Int)+(d:Int)) % 2=0))&&decide ((x:Int)<=(frz a b d ((((x:Int)-(y:Int)+(d:Int)) / 2).toNat):Int)))=wth (sm a b) d x y:=by
 rw[NH (N:=a.length) (fun x y h=>FO a b x y h),Bool.eq_iff_iff]
 simp only[Bool.and_eq_true,decide_eq_true_eq]
 constructor
 ·rintro⟨⟨⟨h1,h2⟩,h3⟩,h4⟩
  refine⟨by omega,by omega,by omega,?_⟩
  rw[show(((x:Int)-(y:Int)+(d:Int)) / 2).toNat=(x+d-y) / 2 by omega]at h4
  exact Int.ofNat_le.1 h4
 ·rintro⟨h1,h2,h3,h4⟩
  refine⟨⟨⟨by omega,by omega⟩,by omega⟩,?_⟩
  rw[show(((x:Int)-(y:Int)+(d:Int)) / 2).toNat=(x+d-y) / 2 by omega]
  exact Int.ofNat_le.2 h4
theorem EH(a b:List Int)(n d x y:Nat)(hn:n<=500)(hd:d<n)(hx:x<=10000000)(hy:y<=10000000):EF Try.prog [] 31 [.one (F7 (C9 a b n)),zP (d:Int),zP (x:Int),zP (y:Int)] (.part (bP (wth (sm a b) d x y))):=by
 have hrow:=H6 a b hd
 have hel:(decide ((0:Int)<=(x:Int)-(y:Int)+(d:Int))&&decide ((x:Int)-(y:Int)+(d:Int)<=2*(d:Int)))=true->(frw a b d)[(((x:Int)-(y:Int)+(d:Int)) / 2).toNat]?=some (frz a b d ((((x:Int)-(y:Int)+(d:Int)) / 2).toNat):Int):=fun h=>by
  have h1:=of_decide_eq_true (gl h)
  have h2:=of_decide_eq_true (gr h)
  exact EB a b (by omega)
 refine AL 40 Try.func31 rfl rfl rfl fun w D=>?_
 try refine A1 ?_
 refine A0 (A6 rfl rfl rfl rfl rfl .nil) ?_
 try refine A1 ?_
 refine A0 (A5 rfl rfl rfl rfl rfl (A5 rfl rfl rfl rfl rfl (A3 rfl rfl rfl (A4 rfl (kn rfl) (kn rfl) (AV (by first | omega | (dsimp only;omega)))) (A5 rfl rfl rfl rfl rfl (A3 rfl rfl rfl (A4 rfl (kn rfl) (kn rfl) (AE (by first | omega | (dsimp only;omega)))) (A6 rfl rfl rfl rfl rfl .nil)))))) ?_
 try refine A1 ?_
 refine A0 (A5 rfl rfl rfl rfl rfl (A3 rfl rfl rfl (A4 rfl (kn rfl) (kn rfl) ET) (A5 rfl rfl rfl rfl rfl (Walk.gd _ rfl rfl rfl (fun h=>AA rfl (kn rfl)) (Walk.gd _ rfl rfl rfl (fun h=>AA rfl (kn rfl)) (Walk.gd _ rfl rfl rfl (fun h=>A4 rfl (kn rfl) (A2 rfl h) (J0 (by first | omega | (dsimp only;omega)))) (Walk.gd _ rfl rfl rfl (fun h=>A4 rfl (A2 rfl h) (A2 rfl h) F6) (A3 rfl rfl rfl (BB rfl (kn rfl) (fun hb=>A2 rfl hb)) (A5 rfl rfl rfl rfl rfl (Walk.gd _ rfl rfl rfl (fun h=>AA rfl (kn rfl)) (Walk.gd _ rfl rfl rfl (fun h=>A4 rfl (A2 rfl h) (kn rfl) (N0 (of_decide_eq_true (gl h)))) (Walk.gd _ rfl rfl rfl (fun h=>A4 rfl (A2 rfl h) (kn rfl) B2) (A3 rfl rfl rfl (BB rfl (kn rfl) (fun hb=>A2 rfl hb)) (A5 rfl rfl rfl rfl rfl (Walk.gd _ rfl rfl rfl (fun h=>AA rfl (kn rfl)) (Walk.gd _ rfl rfl rfl (fun h=>AA rfl (kn rfl)) (Walk.gd _ rfl rfl rfl (fun h=>AA rfl (kn rfl)) (Walk.gd _ rfl rfl rfl (fun h=>AR rfl (A2 rfl h) (A2 rfl h) (by omega) hrow HI sle_47 esz_47 rfl) (Walk.gd _ rfl rfl rfl (fun h=>AG rfl (A2 rfl h) one_22) (Walk.gd _ rfl rfl rfl (fun h=>AA rfl (kn rfl)) (Walk.gd _ rfl rfl rfl (fun h=>A4 rfl (A2 rfl h) (kn rfl) (NF ⟨of_decide_eq_true (gg h).1,by have:=of_decide_eq_true (gg h).2.1;omega⟩)) (Walk.gd _ rfl rfl rfl (fun h=>AR rfl (A2 rfl h) (A2 rfl h) (by have:=of_decide_eq_true (gg h).1;omega) (hel (gl h)) AT sle_22 esz_22 rfl) (Walk.gd _ rfl rfl rfl (fun h=>AG rfl (A2 rfl h) one_3) (Walk.gd _ rfl rfl rfl (fun h=>A4 rfl (A2 rfl h) (A2 rfl h) F6) (A3 rfl rfl rfl (BB rfl (kn rfl) (fun hb=>A2 rfl hb)) (A6 rfl rfl rfl rfl rfl .nil)))))))))))))))))))))))))) ?_
 try refine A1 ?_
 exact AB rfl rfl (.tmp (kn rfl) (.nil)) (CM (NR a b d x y)) rfl
abbrev OB(a b:List Int)(n:Nat):Rw:=⟨22,1,(C9 a b n).length,(C9 a b n).flatMap JS,false⟩
theorem IP(a b:List Int){d i:Nat}(h:i<=d):2*i<=frz a b d i+d:=by
 rcases Nat.lt_or_ge (2*i) d with h1 | h1
 ·omega
 ·have:=((HH (N:=a.length) (fun x y h=>FO a b x y h) d i h).1 (2*i-d) 0 (by omega)).1 (by rw[CD];omega)
  unfold frz
  omega
theorem OH(a b:List Int)(n i:Nat):frz a b n i=alk (sm a b) a.length (HV a b n i) (HV a b n i+n-2*i):=by
 cases n with
 | zero=>
  show alk (sm a b) a.length 0 0=alk (sm a b) a.length 0 (0+0-2*i)
  rw[show 0+0-2*i=0 by omega]
 | succ d=>rfl
theorem JT(a b:List Int){n i:Nat}(h:i<=n):2*i<=HV a b n i+n:=by
 cases n with
 | zero=>omega
 | succ d=>
  show 2*i<=edt (frz a b d) d i+(d+1)
  unfold edt
  split
  ·omega
  ·split
   ·have:=IP a b (d:=d) (i:=d) (Nat.le_refl _)
    omega
   ·have:=IP a b (d:=d) (i:=i) (by omega)
    omega
def nxT(a b:List Int)(n m:Nat):List Dat:=(List.range (n+1)).map fun j=>if j<m then zC (frz a b n j:Int)else zC 0
theorem M2(a b:List Int)(n m:Nat):(nxT a b n m).length=n+1:=by simp[nxT]
theorem L9(a b:List Int)(n:Nat):(List.replicate (n+1) [Value.int .i64 0]).flatten.map Dat.cell=nxT a b n 0:=by
 have h:nxT a b n 0=(List.range (n+1)).map fun _=>zC 0:=List.map_congr_left fun j _=>if_neg (by omega)
 rw[h,List.map_const']
 simp
theorem MB(a b:List Int)(n i:Nat):(nxT a b n i).set i (zC (frz a b n i:Int))=nxT a b n (i+1):=by
 have:=MC (n:=n+1) (i:=i) (fun j=>if j<i then zC (frz a b n j:Int)else zC 0) (fun j=>if j<i+1 then zC (frz a b n j:Int)else zC 0) fun j _ hn=>by
  by_cases h:j<i
  ·simp only[if_pos h,if_pos (show j<i+1 by omega)]
  ·simp only[if_neg h,if_neg (show ¬ j<i+1 by omega)]
 simpa[nxT]using this
theorem GK(a b:List Int)(n:Nat):nxT a b n (n+1)=((frw a b n).map (Value.int .i64)).map Dat.cell:=by
 have h:nxT a b n (n+1)=(List.range (n+1)).map fun j=>zC (frz a b n j:Int):=List.map_congr_left fun j hj=>if_pos (List.mem_range.1 hj)
 rw[h]
 simp[frw]
theorem H5(a b:List Int)(n:Nat):Dat.row 1 (n+1) (nxT a b n (n+1))=zsD (frw a b n):=by
 have h:nxT a b n (n+1)=(List.range (n+1)).map fun j=>zC (frz a b n j:Int):=List.map_congr_left fun j hj=>if_pos (List.mem_range.1 hj)
 unfold zsD
 rw[IL,JQ (f:=zD1) (g:=zC) (fun _=>rfl),h]
 simp[frw]
set_option maxHeartbeats 1000000 in
theorem IM(a b:List Int)(n:Nat)(hn:n<=450)(ha:a.length<=1000000)(hb:b.length<=1000000):EO Try.prog [] 30 [.one (F7 (C9 a b n)),.one (zsD a),.one (zsD b)] 3 1 (n+1) ((frw a b n).map (.int .i64)):=by
 have hfl:=CU a b n
 refine HO 35 Try.func30 rfl rfl rfl fun w D=>?_
 try refine A1 ?_
 refine A0 (A6 rfl rfl rfl rfl rfl .nil) ?_
 try refine A1 ?_
 refine AF ?_
 refine AM ?_
 refine AK (AN rfl (kn rfl) sle_47) ?_
 rw[show(((C9 a b n).length:Nat):Int)=(n:Int) by rw[hfl]]
 refine B7 ?_
 refine AD ?_
 try refine A1 ?_
 refine AF ?_
 refine AM ?_
 refine AK (A4 rfl (kn rfl) (kn rfl) (AE (by first | omega | (dsimp only;omega)))) ?_
 rw[show((n:Int)+1)=((n+1:Nat):Int) from rfl]
 refine ON 1001 rfl rfl rfl rfl (kn rfl) (kn rfl) sl_22 ap_22 zr_3 (by omega) (by omega) (L9 a b n) rfl rfl ?_
 refine B7 ?_
 refine AD ?_
 try refine A1 ?_
 refine A0 (A5 rfl rfl rfl rfl rfl (A3 rfl rfl rfl (CI rfl (kn rfl) rfl sle_22) (A5 rfl rfl rfl rfl rfl .nil))) ?_
 try refine A1 ?_
 refine BC (ι:={ i:Nat // i<=n+1 })
  (fun i=>[(0,.part (.one (F7 (C9 a b n)))),(1,.part (.one (zsD a))),(2,.part (.one (zsD b))),(7,zI (n:Int)),(8,.own 1001),(16,zI ((n+1:Nat):Int)),(17,zI (i.1:Int))])
  (fun _=>[]) (fun i=>[(1001,⟨3,1,n+1,nxT a b n i.1,false⟩)]) (fun i=>n+1-i.1) ⟨0,Nat.zero_le _⟩
  (fun K=>AH ⟨s_t,s_t,s_t,s_t,s_t,s_t,s_t,trivial⟩ trivial ⟨rfl,trivial⟩) ?_
 rintro⟨i,hi⟩
 dsimp only at hi ⊢
 have hnl:=M2 a b n i
 try refine A1 ?_
 refine A0 (A3 rfl rfl rfl (A4 rfl (kn rfl) (kn rfl) BU) .nil) ?_
 try refine A1 ?_
 refine AC rfl (fun h=>?_) (fun h=>?_)
 ·have hin:i<=n:=by have:=ltd h;omega
  have hed:=JC a b n i (by omega) hin ha
  have hel:=LP a b hin
  have hlo:=JT a b hin
  have hal:=H2 a b (HV a b n i) (HV a b n i+n-2*i) (2*(i:Int)-(n:Int)) (by omega) ha hb (by omega) (by omega)
  rw[<- OH]at hal
  have hst:=MB a b n i
  try refine A1 ?_
  refine A0 (A5 rfl rfl rfl rfl rfl (A6 rfl rfl rfl rfl rfl .nil)) ?_
  try refine A1 ?_
  refine AF ?_
  refine AM ?_
  refine AM ?_
  refine AM ?_
  refine AM ?_
  refine AM ?_
  refine AM ?_
  refine AK (AU rfl (by kernel_rfl) (hed) ⟨(kn rfl),⟨(kn rfl),trivial⟩⟩) ?_
  refine AM ?_
  refine AK (A4 rfl (kn rfl) (kn rfl) (J0 (by first | omega | (dsimp only;omega)))) ?_
  refine AM ?_
  refine AK (A4 rfl (kn rfl) (kn rfl) (AV (by first | omega | (dsimp only;omega)))) ?_
  refine AK (AU rfl (by kernel_rfl) (hal) ⟨(kn rfl),⟨(kn rfl),⟨(kn rfl),⟨(kn rfl),trivial⟩⟩⟩⟩) ?_
  refine AK (BK rfl (kn rfl) rfl (kn rfl) ⟨by omega,by omega⟩ sle_22 esz_22) ?_
  refine D3 (ds':=nxT a b n (i+1)) rfl rfl rfl (kn rfl) rfl (kn rfl) rfl (by rw[hnl];omega) sz_3 (by simpa using hst) ?_ rfl
  refine AD ?_
  try refine A1 ?_
  refine A0 (A3 rfl rfl rfl (A4 rfl (kn rfl) (kn rfl) (AE (by first | omega | (dsimp only;omega)))) (A5 rfl rfl rfl rfl rfl .nil)) ?_
  try refine A1 ?_
  refine AO ⟨i+1,by omega⟩ (by dsimp only;omega) (fun K=>AH ⟨s_t,s_t,s_t,s_t,s_t,s_t,s_t,trivial⟩ trivial ⟨rfl,trivial⟩)
 obtain rfl:i=n+1:=by have:=ltf h;omega
 try refine A1 ?_
 refine A0 (A5 rfl rfl rfl rfl rfl (A6 rfl rfl rfl rfl rfl .nil)) ?_
 try refine A1 ?_
 exact E2 rfl rfl rfl rfl (by rw[GK]) rfl
theorem IW(L:List (List Int))(hL:L.length<=1000):EF Try.prog [] 25 [.one (F7 L)] (.part (zP ((L.length:Int)-1))):=by
 refine AL 6 Try.func25 rfl rfl rfl fun w D=>?_
 try refine A1 ?_
 refine A0 (A6 rfl rfl rfl rfl rfl .nil) ?_
 try refine A1 ?_
 refine A0 (A5 rfl rfl rfl rfl rfl (A3 rfl rfl rfl (AN rfl (kn rfl) sle_47) (A3 rfl rfl rfl (A4 rfl (kn rfl) (kn rfl) (AV (by first | omega | (dsimp only;omega)))) (A6 rfl rfl rfl rfl rfl .nil)))) ?_
 try refine A1 ?_
 exact AB rfl rfl (.tmp (kn rfl) (.nil)) (Imp.refl _) rfl
theorem FJ(a b:List Int)(d:Nat)(h:d<=edL a b):wth (sm a b) d a.length b.length=decide (d=edL a b):=by
 have hp:=GY (s:=sm a b) a.length b.length
 unfold wth
 refine decide_eq_decide.2 ⟨fun h1=>?_,fun h1=>?_⟩
 ·have h2:=h1.1
  unfold edL at h ⊢
  omega
 ·subst h1
  unfold edL
  omega
set_option maxHeartbeats 1000000 in
theorem FN(a b:List Int)(ha:a.length<=1000000)(hb:b.length<=1000000)(hn:edL a b<=400):EF Try.prog [] 22 [.one (zsD a),.one (zsD b)] (.tup [.one (F7 (C9 a b (edL a b+1))),bP true]):=by
 refine AL 27 Try.func22 rfl rfl rfl fun w D=>?_
 try refine A1 ?_
 refine A0 (A6 rfl rfl rfl rfl rfl (A6 rfl rfl rfl rfl rfl .nil)) ?_
 try refine A1 ?_
 refine A0 (A6 rfl rfl rfl rfl rfl .nil) ?_
 try refine A1 ?_
 refine BY 6 1000 22 1 rfl rfl rfl ?_
 refine A0 (A6 rfl rfl rfl rfl rfl .nil) ?_
 try refine A1 ?_
 refine BC (ι:={ d:Nat // d<=(edL a b) })
  (fun d=>[(0,.part (.one (zsD a))),(1,.part (.one (zsD b))),(6,.own 1000),(7,zI (d.1:Int))])
  (fun _=>[]) (fun d=>[(1000,OB a b d.1)]) (fun d=>(edL a b)-d.1) ⟨0,Nat.zero_le _⟩
  (fun K=>AH ⟨s_t,s_t,s_t,s_t,trivial⟩ trivial ⟨rfl,trivial⟩) ?_
 rintro⟨d,hd⟩
 dsimp only at hd ⊢
 try refine A1 ?_
 refine A0 (A5 rfl rfl rfl rfl rfl (A3 rfl rfl rfl (A4 rfl (kn rfl) (kn rfl) F6) .nil)) ?_
 try refine A1 ?_
 refine AC rfl (fun h=>?_) (fun h=>absurd (show(d:Int)<=400 by omega) (of_decide_eq_false h))
 have hnx:=IM a b d (by omega) ha hb
 have hwi:=EH a b (d+1) d a.length b.length (by omega) (by omega) (by omega) (by omega)
 have hfl:=CU a b d
 have hfs:=GE a b d
 try refine A1 ?_
 refine AF ?_
 refine AM ?_
 refine AM ?_
 refine AM ?_
 refine AM ?_
 refine FQ 1001 rfl rfl rfl rfl (by kernel_rfl) hnx (KnV.shows ⟨.inr ⟨_,_,kn rfl,rfl,rfl⟩,.inl (kn rfl),.inl (kn rfl),trivial⟩) rfl rfl ?_
 refine AJ 16 1001 rfl rfl rfl ?_
 refine AK (AQ (ds:=[_]) [(0,_)] rfl ⟨rfl,(kn rfl),trivial⟩ rfl sl_47 sz_22 zr_22 (fun w D=>.cons (.cell _) (.nil _ _)) rfl rfl rfl rfl rfl) ?_
 refine B4 rfl rfl rfl rfl (kn rfl) rfl (kn rfl) sl_25 ap_25 rfl rfl (by omega) (by omega) ?_
 refine CC (show _=(C9 a b (d+1)).length by rw[hfs];simp) (show _=(C9 a b (d+1)).flatMap JS by rw[hfs,List.flatMap_append,<- GK,H5];rfl) ?_
 refine B7 ?_
 refine AD ?_
 try refine A1 ?_
 refine A0 (A5 rfl rfl rfl rfl rfl (A5 rfl rfl rfl rfl rfl (A5 rfl rfl rfl rfl rfl (A3 rfl rfl rfl (AN rfl (kn rfl) sle_22) (A5 rfl rfl rfl rfl rfl (A3 rfl rfl rfl (AN rfl (kn rfl) sle_22) (A3 rfl rfl rfl (J4 rfl (by kernel_rfl) hwi (KnV.shows ⟨.inr ⟨_,_,kn rfl,rfl,rfl⟩,.inl (kn rfl),.inl (kn rfl),.inl (kn rfl),trivial⟩) (Far.is _)) .nil))))))) ?_
 try refine A1 ?_
 refine AC rfl (fun h1=>?_) (fun h1=>?_)
 ·rw[FJ a b d hd]at h1
  obtain rfl:=of_decide_eq_true h1
  try refine A1 ?_
  refine AJ 6 1000 rfl rfl rfl ?_
  refine A0 (A5 rfl rfl rfl rfl rfl (A6 rfl rfl rfl rfl rfl (A6 rfl rfl rfl rfl rfl .nil))) ?_
  try refine A1 ?_
  exact AB rfl rfl (.tmp (kn rfl) (.tmp (kn rfl) (.nil))) (Imp.refl _) rfl
 rw[FJ a b d hd]at h1
 have hne:=of_decide_eq_false h1
 try refine A1 ?_
 refine A0 (A5 rfl rfl rfl rfl rfl (A3 rfl rfl rfl (A4 rfl (kn rfl) (kn rfl) (AE (by first | omega | (dsimp only;omega)))) (A6 rfl rfl rfl rfl rfl .nil))) ?_
 try refine A1 ?_
 refine AO ⟨d+1,by omega⟩ (by dsimp only;omega) (fun K=>AH ⟨s_t,s_t,s_t,s_t,trivial⟩ trivial ⟨rfl,trivial⟩)
set_option maxHeartbeats 1000000 in
theorem G6(a b:List Int)(ha:a.length<=1000000)(hb:b.length<=1000000)(hn:400<edL a b):EF Try.prog [] 22 [.one (zsD a),.one (zsD b)] (.tup [.one L5,bP false]):=by
 refine AL 27 Try.func22 rfl rfl rfl fun w D=>?_
 try refine A1 ?_
 refine A0 (A6 rfl rfl rfl rfl rfl (A6 rfl rfl rfl rfl rfl .nil)) ?_
 try refine A1 ?_
 refine A0 (A6 rfl rfl rfl rfl rfl .nil) ?_
 try refine A1 ?_
 refine BY 6 1000 22 1 rfl rfl rfl ?_
 refine A0 (A6 rfl rfl rfl rfl rfl .nil) ?_
 try refine A1 ?_
 refine BC (ι:={ d:Nat // d<=401 })
  (fun d=>[(0,.part (.one (zsD a))),(1,.part (.one (zsD b))),(6,.own 1000),(7,zI (d.1:Int))])
  (fun _=>[]) (fun d=>[(1000,OB a b d.1)]) (fun d=>401-d.1) ⟨0,Nat.zero_le _⟩
  (fun K=>AH ⟨s_t,s_t,s_t,s_t,trivial⟩ trivial ⟨rfl,trivial⟩) ?_
 rintro⟨d,hd⟩
 dsimp only at hd ⊢
 try refine A1 ?_
 refine A0 (A5 rfl rfl rfl rfl rfl (A3 rfl rfl rfl (A4 rfl (kn rfl) (kn rfl) F6) .nil)) ?_
 try refine A1 ?_
 refine AC rfl (fun h=>?_) (fun h=>?_)
 ·have h4:d<=400:=by have:=of_decide_eq_true h;omega
  have hnx:=IM a b d (by omega) ha hb
  have hwi:=EH a b (d+1) d a.length b.length (by omega) (by omega) (by omega) (by omega)
  have hfl:=CU a b d
  have hfs:=GE a b d
  try refine A1 ?_
  refine AF ?_
  refine AM ?_
  refine AM ?_
  refine AM ?_
  refine AM ?_
  refine FQ 1001 rfl rfl rfl rfl (by kernel_rfl) hnx (KnV.shows ⟨.inr ⟨_,_,kn rfl,rfl,rfl⟩,.inl (kn rfl),.inl (kn rfl),trivial⟩) rfl rfl ?_
  refine AJ 16 1001 rfl rfl rfl ?_
  refine AK (AQ (ds:=[_]) [(0,_)] rfl ⟨rfl,(kn rfl),trivial⟩ rfl sl_47 sz_22 zr_22 (fun w D=>.cons (.cell _) (.nil _ _)) rfl rfl rfl rfl rfl) ?_
  refine B4 rfl rfl rfl rfl (kn rfl) rfl (kn rfl) sl_25 ap_25 rfl rfl (by omega) (by omega) ?_
  refine CC (show _=(C9 a b (d+1)).length by rw[hfs];simp) (show _=(C9 a b (d+1)).flatMap JS by rw[hfs,List.flatMap_append,<- GK,H5];rfl) ?_
  refine B7 ?_
  refine AD ?_
  try refine A1 ?_
  refine A0 (A5 rfl rfl rfl rfl rfl (A5 rfl rfl rfl rfl rfl (A5 rfl rfl rfl rfl rfl (A3 rfl rfl rfl (AN rfl (kn rfl) sle_22) (A5 rfl rfl rfl rfl rfl (A3 rfl rfl rfl (AN rfl (kn rfl) sle_22) (A3 rfl rfl rfl (J4 rfl (by kernel_rfl) hwi (KnV.shows ⟨.inr ⟨_,_,kn rfl,rfl,rfl⟩,.inl (kn rfl),.inl (kn rfl),.inl (kn rfl),trivial⟩) (Far.is _)) .nil))))))) ?_
  try refine A1 ?_
  refine AC rfl (fun h1=>?_) (fun h1=>?_)
  ·rw[FJ a b d (by omega)]at h1
   have:=of_decide_eq_true h1
   omega
  try refine A1 ?_
  refine A0 (A5 rfl rfl rfl rfl rfl (A3 rfl rfl rfl (A4 rfl (kn rfl) (kn rfl) (AE (by first | omega | (dsimp only;omega)))) (A6 rfl rfl rfl rfl rfl .nil))) ?_
  try refine A1 ?_
  refine AO ⟨d+1,by omega⟩ (by dsimp only;omega) (fun K=>AH ⟨s_t,s_t,s_t,s_t,trivial⟩ trivial ⟨rfl,trivial⟩)
 try refine A1 ?_
 refine A0 (A6 rfl rfl rfl rfl rfl (A6 rfl rfl rfl rfl rfl .nil)) ?_
 try refine A1 ?_
 exact AB rfl rfl (.tmp (kn rfl) (.tmp (kn rfl) (.nil))) (Imp.refl _) rfl
end Go.Proofs.Ytjpghcmlglhmbaa
