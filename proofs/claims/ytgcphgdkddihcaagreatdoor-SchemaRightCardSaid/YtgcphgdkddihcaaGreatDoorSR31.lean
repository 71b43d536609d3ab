/- Part 31. Conditions: as each theorem says. -/
import Derived.Test.YtgcphgdkddihcaaGreatDoorSR30
import Derived.Test.YtgcphgdkddihcaaGreatDoorProg
import Derived.Test.YtgcphgdkddihcaaGreatDoorRows
set_option maxRecDepth 100000
namespace Go.Proofs.YtgcphgdkddihcaaGreatDoor
open Go.RowKit
abbrev E8A(A:Nat->Addr):Er:=(tE,.pointer (some (A 7)))
abbrev E9A(A:Nat->Addr):Er:=(tE,.pointer (some (A 8)))
abbrev An:=Fil×Nat×Nat×Nat
def Q15(s:List UInt8)(T:List (Tok×Nat))(b ea:Nat):An:=if b=0 then K8 (CT s T)else(TW,b,(BW s ea).1,(BW s ea).2)
def V3(A:Nat->Addr)(x:An):IV:=.tup [FQ x.1,if x.2.1=0 then IS else Q6e A x.2.2.1 x.2.2.2 x.2.1]
structure OfG (gls:List (Nat×List Value)) (A:Nat->Addr) (m:Int):Prop where
 lx:LxG gls A m
 sub:∀ x,x∈gE (E8A A) (E9A A)->x∈gls
theorem RF{l:List Tk}{a c:Nat}(h:FT l=.error (a,c)):K8 l=(TW,c,(tkAt l a).2.1,(tkAt l a).2.2)/\(c=8\/c=9):=by
 refine⟨?_,Q5O l _ h⟩
 unfold K8
 rw[h]
 unfold Q1S
 dsimp only
 split
 ·rfl
 ·rename_i hn
  have:tkAt l a=tk0:=by
   unfold tkAt
   rw[List.getD_eq_getElem?_getD,List.getElem?_eq_none (by omega)]
   rfl
  rw[this]
  rfl
theorem LZ{l:List Tk}{f:Fil}(h:FT l=.ok f):K8 l=(f,0,0,0):=by
 unfold K8
 rw[h]
theorem Q7H{gls:List (Nat×List Value)}{A:Nat->Addr}{m:Int}(hg:OfG gls A m)(s:List UInt8)(hs:s.length<=4000)(T:List (Tok×Nat))(b ea:Nat)(hT:Lex s 0 T b ea):EF Tryz.prog gls 10 [sP s] (V3 A (Q15 s T b ea)):=by
 refine AU 19 Tryz.func10 rfl rfl rfl fun w D=>?_
 try refine A0 ?_
 refine A8 ?_
 refine AS 2 [.is (.string ⟨#[]⟩),.is (.slice none 0 0),.is (.slice none 0 0)] rfl rfl rfl rfl zr_42 (fun w D M V=>⟨rfl,fun j x v h1 h2=>AR _ h1 h2 rfl⟩) rfl rfl rfl rfl ?_
 refine AG ?_
 refine A6 ?_
 try refine A0 ?_
 refine A8 ?_
 refine AJ ?_
 refine KQ rfl rfl rfl rfl (by kernel_rfl) (Q5E hg.lx s hs T b ea hT) ⟨(kn rfl),trivial⟩ ?_
 rintro _ (⟨h0,rfl⟩ | ⟨h0,rfl⟩)
 ·have ha:Q15 s T b ea=K8 (CT s T):=if_pos h0
  refine AJ ?_
  refine B3 ?_
  refine B3 ?_
  refine AG ?_
  refine AG ?_
  refine A6 ?_
  try refine A0 ?_
  refine A1 (AA rfl rfl rfl rfl rfl (A5 rfl rfl rfl (AQ rfl (kn rfl) ifc_28) .nil)) ?_
  try refine A0 ?_
  refine C1 ?_
  try refine A0 ?_
  refine A8 ?_
  refine AJ ?_
  refine KQ rfl rfl rfl rfl (by kernel_rfl) ((Q7E (E8A A) (E9A A) (CT s T) (T7 hs hT)).more hg.sub) ⟨(kn rfl),trivial⟩ ?_
  rintro _ (⟨a,c,he,rfl⟩ | ⟨f,ho,rfl⟩)
  ·obtain⟨hp,hc⟩:=RF he
   refine B3 ?_
   refine B3 ?_
   refine AI rfl rfl rfl (kn rfl) rfl (kn rfl) rfl rfl sz_42 ?_
   refine AG ?_
   refine A6 ?_
   try refine A0 ?_
   exact AM rfl rfl (.cell rfl rfl rfl agg_42 sz_42 rfl (.tmp (kn rfl) (.nil))) (T4 (f:=TW) rfl (DImp.nil 9) (DImp.nil 4)) (by rw[ha,hp];rcases hc with rfl | rfl<;>rfl)
  ·refine B3 ?_
   refine B3 ?_
   refine AI rfl rfl rfl (kn rfl) rfl (kn rfl) rfl rfl sz_42 ?_
   refine AG ?_
   refine A6 ?_
   try refine A0 ?_
   exact AM rfl rfl (.cell rfl rfl rfl agg_42 sz_42 rfl (.tmp (kn rfl) (.nil))) (Imp.refl _) (by rw[ha,LZ ho];rfl)
 ·have ha:Q15 s T b ea=(TW,b,(BW s ea).1,(BW s ea).2):=if_neg h0
  refine AJ ?_
  refine B3 ?_
  refine B3 ?_
  refine AG ?_
  refine AG ?_
  refine A6 ?_
  try refine A0 ?_
  refine A1 (AA rfl rfl rfl rfl rfl (A5 rfl rfl rfl (AP rfl (kn rfl) rfl ifc_28) .nil)) ?_
  try refine A0 ?_
  refine BD ?_
  try refine A0 ?_
  refine A8 ?_
  refine AB (B9 (ds:=[_,_,_]) [] rfl trivial rfl pl_42 zr_42 (fun w D=>.cons (.cell _) (.cons (.cell _) (.cons (.cell _) (.nil _ _)))) rfl) ?_
  refine AJ ?_
  refine AI rfl rfl rfl (kn rfl) rfl (kn rfl) rfl rfl sz_42 ?_
  refine AG ?_
  refine A6 ?_
  try refine A0 ?_
  exact AM rfl rfl (.cell rfl rfl rfl agg_42 sz_42 rfl (.tmp (kn rfl) (.nil))) (T4 (f:=TW) rfl (DImp.nil 9) (DImp.nil 4)) (by rw[ha];simp only[V3,if_neg h0])
theorem Q8h{gls:List (Nat×List Value)}{A:Nat->Addr}{m:Int}(hg:OfG gls A m)(s:List UInt8)(hs:4000<s.length):EF Tryz.prog gls 10 [sP s] (V3 A (TW,3,0,0)):=by
 refine AU 19 Tryz.func10 rfl rfl rfl fun w D=>?_
 try refine A0 ?_
 refine A8 ?_
 refine AS 2 [.is (.string ⟨#[]⟩),.is (.slice none 0 0),.is (.slice none 0 0)] rfl rfl rfl rfl zr_42 (fun w D M V=>⟨rfl,fun j x v h1 h2=>AR _ h1 h2 rfl⟩) rfl rfl rfl rfl ?_
 refine AG ?_
 refine A6 ?_
 try refine A0 ?_
 refine A1 (AA rfl rfl rfl rfl rfl (A5 rfl rfl rfl (AY rfl (by kernel_rfl) (Q5Q hg.lx s hs) ⟨(kn rfl),trivial⟩) (AA rfl rfl rfl rfl rfl (A5 rfl rfl rfl (BN rfl (kn rfl) rfl) (A5 rfl rfl rfl (BN rfl (kn rfl) rfl) (AE rfl rfl rfl rfl rfl (AE rfl rfl rfl rfl rfl .nil))))))) ?_
 try refine A0 ?_
 refine A1 (AA rfl rfl rfl rfl rfl (A5 rfl rfl rfl (AP rfl (kn rfl) rfl ifc_28) .nil)) ?_
 try refine A0 ?_
 refine BD ?_
 try refine A0 ?_
 refine A8 ?_
 refine AB (B9 (ds:=[_,_,_]) [] rfl trivial rfl pl_42 zr_42 (fun w D=>.cons (.cell _) (.cons (.cell _) (.cons (.cell _) (.nil _ _)))) rfl) ?_
 refine AJ ?_
 refine AI rfl rfl rfl (kn rfl) rfl (kn rfl) rfl rfl sz_42 ?_
 refine AG ?_
 refine A6 ?_
 try refine A0 ?_
 exact AM rfl rfl (.cell rfl rfl rfl agg_42 sz_42 rfl (.tmp (kn rfl) (.nil))) (T4 (f:=TW) rfl (DImp.nil 9) (DImp.nil 4)) (rfl)
theorem DU{l:List UInt8}{i j k n:Nat}{t:List UInt8}{ts:List (Tok×Nat)}{e ea:Nat}(h1:i<l.length)(h2:lfirst (l.drop i)=(⟨k,t,n⟩,j,0))(h3:(lcut (l.drop i)).1≠0)(h:Lex l (i+j) ts e ea):Lex l i ((⟨k,t,n⟩,i)::ts) e ea:=by
 have:=Lex.tok (l:=l) (i:=i) h1 (by rw[h2]) h3 (by rw[h2];exact h)
 rwa [h2]at this
theorem F2{l:List UInt8}{i j:Nat}{t:Tok}{ts:List (Tok×Nat)}{e ea:Nat}(h1:i<l.length)(h2:lfirst (l.drop i)=(t,j,0))(h3:(lcut (l.drop i)).1=0)(h:Lex l (i+j) ts e ea):Lex l i ts e ea:=
 Lex.gap (l:=l) (i:=i) h1 (by rw[h2]) h3 (by rw[h2];exact h)
abbrev exG:Tok:=⟨0,[],0⟩
theorem Q0w{l:List Tk}(hl:l.length<=100000){f:Fil}(h:FT l=.ok f):f.fine:=by
 rw[KZ]at h
 split at h
 ·cases h
 rename_i q hq
 have hq:=WN hq
 split at h
 ·cases h
 rename_i pk u hpk
 refine IG hl _ _ u ⟨Nat.zero_le _,Nat.zero_le _,fun x hx=>(by cases hx),fun x hx=>(by cases hx)⟩ (Nat.zero_le _) (Nat.zero_le _) ?_ h
 unfold DI at hpk
 split at hpk
 ·split at hpk
  ·cases hpk
  rename_i hd
  have:=F4 hd
  split at hpk
  ·cases hpk
  rename_i hw
  have:=BA hw
  injection hpk with hpk
  injection hpk with h1 h2
  subst h2
  omega
 ·injection hpk with hpk
  injection hpk with h1 h2
  subst h2
  exact hq
abbrev glA(A:Nat->Addr)(m:Int):List (Nat×List Value):=[(4,[errV A 0]),(0,[errV A 2]),(10,[errV A 7]),(1,[errV A 8]),(21,[.int .i64 m])]
theorem Q64(A:Nat->Addr)(m:Int):OfG (glA A m) A m:=⟨⟨by simp[glA],by simp[glA],by simp[glA],by simp[glA]⟩,fun x hx=>by
 rcases List.mem_cons.1 hx with rfl | hx
 ·simp[glA]
 ·rcases List.mem_cons.1 hx with rfl | hx
  ·simp[glA]
  ·cases hx⟩
section
open Go Go.RowKit
theorem XR{l:List UInt8}(h0:0<l.length)(h1:(lfirst l).2.2=0)(hk:(lfirst l).1.k=1):NmOk 40 (lfirst l).1.t:=by
 unfold lfirst at h1 hk ⊢
 split at h1
 ·rename_i h
  rw[if_pos h]at hk
  cases hk
 ·rename_i hn1
  rw[if_neg hn1]at hk ⊢
  split at h1
  ·rename_i h
   rw[if_pos h]at hk
   cases hk
  ·rename_i hn2
   rw[if_neg hn2]at hk ⊢
   dsimp only at hk ⊢
   have hk1:(lcut l).1=1:=by
    unfold DK at hk
    split at hk
    ·cases hk
    split at hk
    ·assumption
    split at hk
    ·split at hk<;>cases hk
    split at hk
    ·split at hk<;>cases hk
    ·exact hk
   rw[hk1]at hn2 ⊢
   have ht:DK 1 (l.take (lcut l).2.1)=if 40<(l.take (lcut l).2.1).length then(⟨0,[],0⟩,3)else(⟨1,l.take (lcut l).2.1,0⟩,0):=rfl
   rw[ht]at hn2 ⊢
   split at hn2
   ·exact(hn2 (by decide)).elim
   ·rename_i h40
    rw[if_neg h40]
    have hcut:lxLet (l.headD 0)=true/\(lcut l).2.1=CL N7 l:=by
     unfold lcut at hk1 ⊢
     split at hk1
     ·cases hk1
     rename_i a1
     rw[if_neg a1]
     split at hk1
     ·cases hk1
     rename_i a2
     rw[if_neg a2]
     split at hk1
     ·cases hk1
     rename_i a3
     rw[if_neg a3]
     split at hk1
     ·rename_i a4
      rw[if_pos a4]
      exact⟨a4,rfl⟩
     split at hk1
     ·cases hk1
     split at hk1
     ·cases hk1
     split at hk1<;>cases hk1
    obtain⟨hl,hs⟩:=hcut
    rw[hs]at h40 ⊢
    show NmOk 40 (l.take (CL N7 l))
    have hpos:=GH (p:=N7) h0 (by unfold N7;rw[hl];rfl)
    refine⟨fun e=>?_,by omega,fun h46=>?_⟩
    ·have:=congrArg List.length e
     rw[List.length_take]at this
     simp only[List.length_nil]at this
     omega
    ·obtain⟨j,hj⟩:=List.getElem?_of_mem h46
     rw[List.getElem?_take]at hj
     split at hj
     ·rename_i hjl
      have:=UI hjl hj
      revert this
      decide
     ·cases hj
theorem Lex.names{l:List UInt8}{i:Nat}{ts:List (Tok×Nat)}{e ea:Nat}(h:Lex l i ts e ea):i<=l.length -> ∀ x∈ts,x.1.k=1->NmOk 40 x.1.t:=by
 induction h with
 | done h=>intro hi x hx;cases hx
 | bad h1 h2=>intro hi x hx;cases hx
 | @gap i ts e ea h1 h2 h3 h ih=>
  intro hi
  have h0:0<(l.drop i).length:=by rw[List.length_drop];omega
  have hs:=CZ h0 h2
  rw[List.length_drop]at hs
  exact ih (by omega)
 | @tok i ts e ea h1 h2 h3 h ih=>
  intro hi
  have h0:0<(l.drop i).length:=by rw[List.length_drop];omega
  have hs:=CZ h0 h2
  rw[List.length_drop]at hs
  intro x hx hk
  rcases List.mem_cons.1 hx with rfl | hx
  ·exact XR h0 h2 hk
  ·exact ih (by omega) x hx hk
def Words(N:Nat)(l:List Tk):Prop:=∀ x∈l,x.1.k=1->NmOk N x.1.t
theorem KA{s:List UInt8}{ts:List (Tok×Nat)}{e ea:Nat}(h:Lex s 0 ts e ea):Words 40 (CT s ts):=fun x hx hk=>by
 obtain⟨y,hy,rfl⟩:=List.mem_map.1 hx
 exact h.names (Nat.zero_le _) y hy hk
theorem KK{N:Nat}{l:List Tk}(hw:Words N l){p q:Nat}{x:Tk}(h:DF l p=.ok (x,q)):NmOk N x.1.t:=by
 obtain⟨_,_,h1,h2⟩:=EZ h
 exact hw x (List.mem_of_getElem? h1) h2
theorem XQ{N:Nat}{l:List Tk}(hw:Words N l){p q:Nat}{x:Tk}(h:KM l p=.ok (x,q)):NmOk N x.1.t:=by
 unfold KM at h
 split at h
 ·cases h
 rename_i y r hx
 split at h
 ·cases h
 injection h with h
 injection h with h1 h2
 subst h1
 exact KK hw hx
theorem XP{N:Nat}{l:List Tk}(hw:Words N l){p q:Nat}{x:Enm}(h:FK l p=.ok (x,q)):NmOk N x.name:=by
 unfold FK at h
 split at h
 ·cases h
 rename_i y r hx
 split at h
 ·cases h
 injection h with h
 injection h with h1 h2
 subst h1
 exact XQ hw hx
def cntA(e:List Enm)(m:List Msg):Nat:=e.length+(tyMs [] m).length
theorem UW(a:List UInt8)(e:List Enm)(m:List Msg):(E1 a e m).length=cntA e m:=by
 unfold E1 cntA
 rw[List.length_append,List.length_map,tyMs_len a [] m]
theorem Q57(a:List UInt8)(x:Msg):(tyM a x).length=1+cntA x.enums x.msgs:=by
 rw[Q0q,List.length_cons,UW]
 omega
theorem XO(e:List Enm)(m:List Msg)(k:Msg):cntA e (m++[k])=cntA e m+(tyM [] k).length:=by
 unfold cntA
 rw[OW,Q4p,List.length_append]
 omega
theorem ZU(e:List Enm)(m:List Msg)(k:Enm):cntA (e++[k]) m=cntA e m+1:=by
 unfold cntA
 rw[List.length_append,List.length_singleton]
 omega
structure PartOk (N d b:Nat) (m:Msg) (p:Nat):Prop where
 nm:NmOk N m.name
 en:∀ x∈m.enums,NmOk N x.name
 ms:∀ k∈m.msgs,MOk N d k
 cnt:cntA m.enums m.msgs+b<=p
theorem Q3W{N d b:Nat}{l:List Tk}(hw:Words N l){sub:Nat->AZ (Msg×Nat)}(hst:Steps l sub)(hsub:∀ p x q,sub p=.ok (x,q)->MOk N d x/\(tyM [] x).length+p<=q){m m':Msg}{p q:Nat}(hm:PartOk N d b m p)(h:CN l sub m p=.ok (m',q)):PartOk N d b m' q:=by
 obtain⟨nm,fs,os,ms,es,rs,ns,ln,cl⟩:=m
 obtain⟨a1,a2,a3,a4⟩:=hm
 have hpq:=FR hst h
 simp only[Msg.name,Msg.msgs,Msg.enums]at a1 a2 a3 a4
 simp only[CN]at h
 split at h
 ·split at h
  ·cases h
  rename_i k r hr
  obtain⟨h1,h2⟩:=hsub _ _ _ hr
  injection h with h
  injection h with h4 h5
  subst h4 h5
  refine⟨a1,a2,fun k' hk=>?_,?_⟩
  ·rcases List.mem_append.1 hk with hk | hk
   ·exact a3 k' hk
   ·rw[List.mem_singleton.1 hk]
    exact h1
  ·show cntA es (ms++[k])+b<=_
   rw[XO]
   omega
 split at h
 ·split at h
  ·cases h
  rename_i k r hr
  have h1:=XP hw hr
  injection h with h
  injection h with h4 h5
  subst h4 h5
  refine⟨a1,fun k' hk=>?_,a3,?_⟩
  ·rcases List.mem_append.1 hk with hk | hk
   ·exact a2 k' hk
   ·rw[List.mem_singleton.1 hk]
    exact h1
  ·show cntA (es++[k]) ms+b<=_
   rw[ZU]
   omega
 split at h
 ·split at h
  ·cases h
  rename_i k r hr
  injection h with h
  injection h with h4 h5
  subst h4 h5
  exact⟨a1,a2,a3,by show cntA es ms+b<=_;omega⟩
 split at h
 ·split at h
  ·cases h
  rename_i k r hr
  injection h with h
  injection h with h4 h5
  subst h4 h5
  exact⟨a1,a2,a3,by show cntA es ms+b<=_;omega⟩
 split at h
 ·cases h
 rename_i k r hr
 injection h with h
 injection h with h4 h5
 subst h4 h5
 exact⟨a1,a2,a3,by show cntA es ms+b<=_;omega⟩
theorem YR{N d b:Nat}{l:List Tk}(hw:Words N l){sub:Nat->AZ (Msg×Nat)}(hst:Steps l sub)(hsub:∀ p x q,sub p=.ok (x,q)->MOk N d x/\(tyM [] x).length+p<=q):∀ (n:Nat) (m:Msg) (p:Nat) {m':Msg} {q:Nat},p<=l.length->PartOk N d b m p->ET l sub n m p=.ok (m',q)->PartOk N d b m' q
 | 0,m,p,m',q,hp,hm,h=>by cases h
 | n+1,m,p,m',q,hp,hm,h=>by
  have hs:=G9 hp
  have hm':PartOk N d b m (J1 l p):=⟨hm.nm,hm.en,hm.ms,by have:=hm.cnt;omega⟩
  simp only[ET]at h
  split at h
  ·rename_i h1
   injection h with h
   injection h with h2 h3
   subst h2 h3
   exact⟨hm'.nm,hm'.en,hm'.ms,by have:=hm'.cnt;omega⟩
  split at h
  ·cases h
  rename_i v r hv
  have h1:=FR hst hv
  exact YR hw hst hsub n v r (by omega) (Q3W hw hst hsub hm' hv) h
theorem PG{N:Nat}{l:List Tk}(hw:Words N l):∀ d p x q,BE l d p=.ok (x,q)->MOk N d x/\(tyM [] x).length+p<=q
 | 0,p,x,q,h=>by
  unfold BE at h
  split at h<;>cases h
 | d+1,p,x,q,h=>by
  have h0:=CJ l (d+1) p x q h
  unfold BE at h
  split at h
  ·cases h
  rename_i y r hx
  split at h
  ·cases h
  rename_i s hs
  have h1:=EZ hx
  have h2:=BA hs
  have h3:=KK hw hx
  have h4:PartOk N d s (.mk y.1.t [] [] [] [] [] [] y.2.1 y.2.2) s:=⟨h3,fun x hx=>(by cases hx),fun k hk=>(by cases hk),by show 0+0+s<=s;omega⟩
  have h5:=YR hw (CJ l d) (PG hw d) _ _ _ (by omega) h4 h
  refine⟨?_,?_⟩
  ·have h6:=h5.nm
   have h7:=h5.en
   have h8:=h5.ms
   cases x
   exact⟨h6,h7,h8⟩
  ·rw[Q57]
   have:=h5.cnt
   omega
structure FilOk (N b:Nat) (f:Fil) (p:Nat):Prop where
 en:∀ x∈f.enums,NmOk N x.name
 ms:∀ k∈f.msgs,MOk N 8 k
 cnt:cntA f.enums f.msgs+b<=p
theorem L0{N b:Nat}{l:List Tk}(hw:Words N l):∀ (n:Nat) (f:Fil) (p:Nat) {g:Fil},FilOk N b f p->p<=l.length->DW l n f p=.ok g->FilOk N b g l.length/\g.package=f.package
 | 0,f,p,g,hf,hp,h=>by cases h
 | n+1,f,p,g,hf,hp,h=>by
  obtain⟨f1,f2,f3⟩:=hf
  rw[DW]at h
  split at h
  ·rename_i hlt
   split at h
   ·exact L0 hw n f (p+1) ⟨f1,f2,by omega⟩ (by omega) h
   split at h
   ·split at h
    ·cases h
    rename_i m q hm
    obtain⟨h3,h3c⟩:=PG hw _ _ _ _ hm
    have h4:=CJ l _ _ _ _ hm
    refine L0 hw n { f with msgs:=f.msgs++[m] } q ⟨f1,fun k hk=>?_,?_⟩ h4.2 h
    ·rcases List.mem_append.1 hk with hk | hk
     ·exact f2 k hk
     ·rw[List.mem_singleton.1 hk]
      exact h3
    ·dsimp only
     rw[XO]
     omega
   split at h
   ·split at h
    ·cases h
    rename_i m q hm
    have h3:=XP hw hm
    have h4:=MW hm
    refine L0 hw n { f with enums:=f.enums++[m] } q ⟨fun k hk=>?_,f2,?_⟩ h4.2 h
    ·rcases List.mem_append.1 hk with hk | hk
     ·exact f1 k hk
     ·rw[List.mem_singleton.1 hk]
      exact h3
    ·dsimp only
     rw[ZU]
     omega
   ·cases h
  ·injection h with h
   subst h
   exact⟨⟨f1,f2,by omega⟩,rfl⟩
theorem Q5L{N:Nat}{t:List UInt8}(h:NmOk N t):t.head? ≠ some 46:=fun e=>by
 cases t with
 | nil=>cases e
 | cons c r=>
  obtain rfl:=Option.some.inj e
  exact h.2.2 List.mem_cons_self
theorem P1{a b:List UInt8}(h:a≠[]):(a++b).head?=a.head?:=by
 cases a with
 | nil=>exact absurd rfl h
 | cons c r=>rfl
theorem Z3{N:Nat}{l:List Tk}(hw:Words N l):∀ (n:Nat) (s:List UInt8) (p:Nat) {t:List UInt8} {q:Nat},E3 l n s p=.ok (t,q)->s.head? ≠ some 46->t.head? ≠ some 46/\t.length<=s.length+n*(N+1)
 | 0,s,p,t,q,h,hs=>by cases h
 | n+1,s,p,t,q,h,hs=>by
  unfold E3 at h
  split at h
  ·cases h
  rename_i x r hx
  have hn:=KK hw hx
  have hh:(s++x.1.t).head? ≠ some 46:=by
   by_cases e:s=[]
   ·rw[e]
    exact Q5L hn
   ·rw[P1 e]
    exact hs
  have hne:s++x.1.t≠[]:=fun e=>hn.1 (List.append_eq_nil_iff.1 e).2
  have hl:=hn.2.1
  have hmul:(n+1)*(N+1)=n*(N+1)+(N+1):=Nat.succ_mul _ _
  split at h
  ·have:=Z3 hw n _ _ h (by rw[P1 hne];exact hh)
   refine⟨this.1,?_⟩
   have h2:=this.2
   simp only[List.length_append,List.length_singleton]at h2
   omega
  ·injection h with h
   injection h with h1 h2
   subst h1
   refine⟨hh,?_⟩
   rw[List.length_append]
   omega
theorem ZG{N:Nat}{l:List Tk}(hN:N<=1000)(hl:l.length<=100000)(hw:Words N l){f:Fil}(h:FT l=.ok f):FOk N f/\(MF f).length<=100000:=by
 have hfine:=Q0w hl h
 rw[KZ]at h
 split at h
 ·cases h
 rename_i q hq
 have hq:=WN hq
 split at h
 ·cases h
 rename_i pk u hpk
 have hk:u<=l.length/\pk.head? ≠ some 46/\pk.length<=100000000000:=by
  unfold DI at hpk
  split at hpk
  ·split at hpk
   ·cases hpk
   rename_i hd
   have h1:=F4 hd
   unfold CX at hd
   rw[Bool.false_and,if_neg (by decide)]at hd
   have h2:=Z3 hw _ _ _ hd (by decide)
   split at hpk
   ·cases hpk
   rename_i hw'
   have:=BA hw'
   injection hpk with hpk
   injection hpk with h3 h4
   subst h3 h4
   refine⟨by omega,h2.1,?_⟩
   have h5:=h2.2
   have h6:(l.length+1)*(N+1)<=100001*1001:=Nat.mul_le_mul (by omega) (by omega)
   simp only[List.length_nil]at h5
   omega
  ·injection hpk with hpk
   injection hpk with h1 h2
   subst h1 h2
   exact⟨hq,by decide,by decide⟩
 obtain⟨h1,h2⟩:=L0 (b:=0) hw _ ⟨pk,[],[]⟩ u ⟨fun x hx=>(by cases hx),fun x hx=>(by cases hx),by show 0+0+0<=u;omega⟩ hk.1 h
 refine⟨⟨hfine,by rw[h2];exact hk.2.2,by rw[h2];exact hk.2.1,h1.en,h1.ms⟩,?_⟩
 unfold MF
 rw[UW]
 have:=h1.cnt
 omega
end
theorem QL{N:Nat}{l:List Tk}(hw:Words N l):∀ (n:Nat) (s:List UInt8) (p:Nat) {t:List UInt8} {q:Nat},E3 l n s p=.ok (t,q)->t.length<=s.length+n*(N+1)
 | 0,s,p,t,q,h=>by cases h
 | n+1,s,p,t,q,h=>by
  unfold E3 at h
  split at h
  ·cases h
  rename_i x r hx
  have hl:=(KK hw hx).2.1
  have hmul:(n+1)*(N+1)=n*(N+1)+(N+1):=Nat.succ_mul _ _
  split at h
  ·have h2:=QL hw n _ _ h
   simp only[List.length_append,List.length_singleton]at h2
   omega
  ·injection h with h
   injection h with h1 h2
   subst h1
   rw[List.length_append]
   omega
structure WdOk (l:List Tk):Prop where
 wd:Words 40 l
 len:l.length<=4000
theorem MD{l:List Tk}(hw:WdOk l){typ:Bool}{p:Nat}{t:List UInt8}{q:Nat}(h:CX l typ p=.ok (t,q)):t.length<=1000000:=by
 unfold CX at h
 have hm:(l.length+1)*(40+1)<=4001*41:=Nat.mul_le_mul (by have:=hw.len;omega) (by omega)
 split at h
 ·have:=QL hw.wd _ _ _ h
  simp only[List.length_singleton]at this
  omega
 ·have:=QL hw.wd _ _ _ h
  simp only[List.length_nil]at this
  omega
theorem NR{l:List Tk}(hw:WdOk l){p q:Nat}{x:Tk}(h:DF l p=.ok (x,q)):x.1.t.length<=1000000:=by
 have:=(KK hw.wd h).2.1
 omega
theorem Q4B{l:List Tk}(hw:WdOk l){p q:Nat}{x:Tk}(h:KM l p=.ok (x,q)):x.1.t.length<=1000000:=by
 have:=(XQ hw.wd h).2.1
 omega
structure FP (a b:Int) (f:Fld):Prop where
 ty:f.type.length<=1000000
 key:f.key.length<=1000000
 lb:f.label=a
 pk:0<=f.packed/\f.packed<=2
 on:f.oneof=b
theorem Q3h{l:List Tk}(hw:WdOk l){a b:Int}{f g:Fld}{p q:Nat}(hf:FP a b f)(h:CW l f p=.ok (g,q)):FP a b g/\g.name=f.name:=by
 obtain⟨f1,f2,f3,f4,f5⟩:=hf
 unfold CW at h
 split at h
 ·split at h
  ·cases h
  split at h
  ·injection h with h
   injection h with h1 h2
   subst h1
   exact⟨⟨f1,f2,f3,show(0:Int)<=1/\(1:Int)<=2 from by decide,f5⟩,rfl⟩
  split at h
  ·injection h with h
   injection h with h1 h2
   subst h1
   exact⟨⟨f1,f2,f3,show(0:Int)<=2/\(2:Int)<=2 from by decide,f5⟩,rfl⟩
  ·cases h
 split at h
 ·split at h
  ·cases h
  split at h
  ·cases h
  rename_i x r hx
  injection h with h
  injection h with h1 h2
  subst h1
  exact⟨⟨f1,NR hw hx,f3,f4,f5⟩,rfl⟩
 ·cases h
theorem Q1o{l:List Tk}(hw:WdOk l){a b:Int}:∀ (n:Nat) (f:Fld) (p:Nat) {g:Fld} {q:Nat},FP a b f->KL l n f p=.ok (g,q)->FP a b g/\g.name=f.name
 | 0,f,p,g,q,hf,h=>by cases h
 | n+1,f,p,g,q,hf,h=>by
  unfold KL at h
  split at h
  ·cases h
  rename_i x r hx
  obtain⟨h1,h2⟩:=Q3h hw hf hx
  split at h
  ·obtain⟨h3,h4⟩:=Q1o hw n _ _ h1 h
   exact⟨h3,h4.trans h2⟩
  split at h
  ·cases h
  split at h
  ·cases h
  injection h with h
  injection h with h3 h4
  subst h3
  exact⟨h1,h2⟩
theorem Q0f{l:List Tk}(hw:WdOk l){a b:Int}{f g:Fld}{p q:Nat}(hf:FP a b f)(h:E0 l f p=.ok (g,q)):FP a b g/\g.name=f.name:=by
 unfold E0 at h
 split at h
 ·exact Q1o hw _ _ _ hf h
 split at h
 ·cases h
 injection h with h
 injection h with h3 h4
 subst h3
 exact⟨hf,rfl⟩
theorem Q1Y{l:List Tk}(hw:WdOk l){a b:Int}{f g:Fld}{p q:Nat}(hf:FP a b f)(h:H6 l f p=.ok (g,q)):FP a b g/\g.name.length<=1000000:=by
 unfold H6 at h
 split at h
 ·cases h
 rename_i x r hx
 split at h
 ·cases h
 split at h
 ·cases h
 obtain⟨h1,h2⟩:=Q0f (a:=a) (b:=b) (f:={ f with name:=x.1.t,line:=x.2.1,col:=x.2.2,number:=_ }) hw ⟨hf.ty,hf.key,hf.lb,hf.pk,hf.on⟩ h
 refine⟨h1,?_⟩
 rw[h2]
 exact NR hw hx
theorem NK{l:List Tk}(hw:WdOk l){a b:Int}{g:Fld}{p q:Nat}(h:FN l p a b=.ok (g,q)):FP a b g/\g.name.length<=1000000:=by
 unfold FN at h
 split at h
 ·cases h
 rename_i s r hs
 exact Q1Y hw ⟨MD hw hs,show([]:List UInt8).length<=1000000 from by decide,rfl,show(0:Int)<=0/\(0:Int)<=2 from by decide,rfl⟩ h
theorem Q3s{l:List Tk}(hw:WdOk l){g:Fld}{p q:Nat}(h:DS l p=.ok (g,q)):FP 4 0 g/\g.name.length<=1000000:=by
 unfold DS at h
 split at h
 ·cases h
 split at h
 ·cases h
 split at h
 ·cases h
 split at h
 ·cases h
 rename_i s r hs
 split at h
 ·cases h
 exact Q1Y hw ⟨MD hw hs,show([]:List UInt8).length<=1000000 from by decide,rfl,show(0:Int)<=0/\(0:Int)<=2 from by decide,rfl⟩ h
theorem Q1A{l:List Tk}(hw:WdOk l){a:Int}:∀ (n:Nat) (vs:List Fld) (p:Nat) {ws:List Fld} {q:Nat},(∀ x∈vs,FP 1 a x/\x.name.length<=1000000)->GL l a n vs p=.ok (ws,q) -> ∀ x∈ws,FP 1 a x/\x.name.length<=1000000
 | 0,vs,p,ws,q,hv,h=>by cases h
 | n+1,vs,p,ws,q,hv,h=>by
  simp only[GL]at h
  split at h
  ·split at h
   ·cases h
   injection h with h
   injection h with h2 h3
   subst h2
   exact hv
  split at h
  ·cases h
  rename_i v r hx
  refine Q1A hw n _ _ (fun x hm=>?_) h
  rcases List.mem_append.1 hm with hm | hm
  ·exact hv x hm
  ·rw[List.mem_singleton.1 hm]
   exact NK hw hx
theorem Q4T{l:List Tk}(hw:WdOk l){p q:Nat}{a:Int}{x:List UInt8×List Fld}(h:G1 l p a=.ok (x,q)):x.1.length<=1000000 /\ ∀ y∈x.2,FP 1 a y/\y.name.length<=1000000:=by
 unfold G1 at h
 split at h
 ·cases h
 rename_i y r hx
 split at h
 ·cases h
 rename_i vs s hs
 injection h with h
 injection h with h4 h5
 subst h4
 exact⟨Q4B hw hx,Q1A hw _ _ _ (fun x hm=>(by cases hm)) hs⟩
theorem Q4j{l:List Tk}(hw:WdOk l){p q:Nat}{x:Val}(h:EA l p=.ok (x,q)):x.name.length<=1000000:=by
 unfold EA at h
 split at h
 ·cases h
 rename_i y r hx
 split at h
 ·cases h
 split at h
 ·split at h
  ·cases h
  split at h
  ·cases h
  injection h with h
  injection h with h4 h5
  subst h4
  exact NR hw hx
 ·split at h
  ·cases h
  split at h
  ·cases h
  injection h with h
  injection h with h4 h5
  subst h4
  exact NR hw hx
theorem Q1Z{l:List Tk}(hw:WdOk l):∀ (n:Nat) (vs:List Val) (p:Nat) {ws:List Val} {q:Nat},(∀ x∈vs,x.name.length<=1000000)->HH l n vs p=.ok (ws,q) -> ∀ x∈ws,x.name.length<=1000000
 | 0,vs,p,ws,q,hv,h=>by cases h
 | n+1,vs,p,ws,q,hv,h=>by
  simp only[HH]at h
  split at h
  ·split at h
   ·cases h
   injection h with h
   injection h with h2 h3
   subst h2
   exact hv
  split at h
  ·cases h
  rename_i v r hx
  refine Q1Z hw n _ _ (fun x hm=>?_) h
  rcases List.mem_append.1 hm with hm | hm
  ·exact hv x hm
  ·rw[List.mem_singleton.1 hm]
   exact Q4j hw hx
theorem Q1x{l:List Tk}(hw:WdOk l){p q:Nat}{x:Enm}(h:FK l p=.ok (x,q)):EGd x:=by
 unfold FK at h
 split at h
 ·cases h
 split at h
 ·cases h
 rename_i vs s hs
 injection h with h
 injection h with h4 h5
 subst h4
 exact Q1Z hw _ _ _ (fun x hm=>(by cases hm)) hs
theorem FP.gd{k:Nat}{a b:Int}{x:Fld}(h:FP a b x)(hn:x.name.length<=1000000)(ha:1<=a/\a<=4)(hb:0<=b/\b<=(k:Int)):FGd k x:=by
 obtain⟨f1,f2,f3,f4,f5⟩:=h
 subst f3 f5
 exact⟨hn,f1,f2,ha,f4,hb⟩
theorem FGd.up{k m:Nat}{x:Fld}(h:FGd k x)(hk:k<=m):FGd m x:=by
 obtain⟨f1,f2,f3,f4,f5,f6,f7⟩:=h
 exact⟨f1,f2,f3,f4,f5,f6,by omega⟩
theorem Q4w{l:List Tk}(hw:WdOk l){sub:Nat->AZ (Msg×Nat)}(hsub:∀ p x q,sub p=.ok (x,q)->x.gd){m m':Msg}{p q:Nat}(hm:m.gd)(h:CN l sub m p=.ok (m',q)):m'.gd:=by
 obtain⟨nm,fs,os,ms,es,rs,ns,ln,cl⟩:=m
 obtain⟨a1,a2,a3,a4⟩:=(Msg.gd_iff _).1 hm
 simp only[Msg.fields,Msg.oneofs,Msg.msgs,Msg.enums]at a1 a2 a3 a4
 simp only[CN]at h
 split at h
 ·split at h
  ·cases h
  rename_i k r hr
  have h1:=hsub _ _ _ hr
  injection h with h
  injection h with h4 h5
  subst h4
  refine(Msg.gd_iff _).2 ⟨a1,a2,a3,fun k' hk=>?_⟩
  rcases List.mem_append.1 hk with hk | hk
  ·exact a4 k' hk
  ·rw[List.mem_singleton.1 hk]
   exact h1
 split at h
 ·split at h
  ·cases h
  rename_i k r hr
  have h1:=Q1x hw hr
  injection h with h
  injection h with h4 h5
  subst h4
  refine(Msg.gd_iff _).2 ⟨a1,a2,fun k' hk=>?_,a4⟩
  rcases List.mem_append.1 hk with hk | hk
  ·exact a3 k' hk
  ·rw[List.mem_singleton.1 hk]
   exact h1
 split at h
 ·split at h
  ·cases h
  rename_i k r hr
  obtain⟨h1,h2⟩:=Q4T hw hr
  injection h with h
  injection h with h4 h5
  subst h4
  refine(Msg.gd_iff _).2 ⟨fun x hx=>?_,fun x hx=>?_,a3,a4⟩
  ·show FGd (os++[k.1]).length x
   rw[List.length_append,List.length_singleton]
   rcases List.mem_append.1 hx with hx | hx
   ·exact(a1 x hx).up (by omega)
   ·exact(h2 x hx).1.gd (h2 x hx).2 (by decide) (by simp only[Msg.oneofs];omega)
  ·rcases List.mem_append.1 hx with hx | hx
   ·exact a2 x hx
   ·rw[List.mem_singleton.1 hx]
    exact h1
 split at h
 ·split at h
  ·cases h
  injection h with h
  injection h with h4 h5
  subst h4
  exact(Msg.gd_iff _).2 ⟨a1,a2,a3,a4⟩
 split at h
 ·cases h
 rename_i k r hr
 injection h with h
 injection h with h4 h5
 subst h4
 refine(Msg.gd_iff _).2 ⟨fun x hx=>?_,a2,a3,a4⟩
 rcases List.mem_append.1 hx with hx | hx
 ·exact a1 x hx
 ·rw[List.mem_singleton.1 hx]
  show FGd os.length k
  have z:(0:Int)<=0/\(0:Int)<=(os.length:Int):=⟨by omega,by omega⟩
  split at hr
  ·have:=NK hw hr
   exact this.1.gd this.2 (by decide) z
  split at hr
  ·have:=NK hw hr
   exact this.1.gd this.2 (by decide) z
  split at hr
  ·have:=Q3s hw hr
   exact this.1.gd this.2 (by decide) z
  ·have:=NK hw hr
   exact this.1.gd this.2 (by decide) z
theorem YW{l:List Tk}(hw:WdOk l){sub:Nat->AZ (Msg×Nat)}(hsub:∀ p x q,sub p=.ok (x,q)->x.gd):∀ (n:Nat) (m:Msg) (p:Nat) {m':Msg} {q:Nat},m.gd->ET l sub n m p=.ok (m',q)->m'.gd
 | 0,m,p,m',q,hm,h=>by cases h
 | n+1,m,p,m',q,hm,h=>by
  simp only[ET]at h
  split at h
  ·injection h with h
   injection h with h2 h3
   subst h2
   exact hm
  split at h
  ·cases h
  rename_i v r hv
  exact YW hw hsub n v r (Q4w hw hsub hm hv) h
theorem P7{l:List Tk}(hw:WdOk l):∀ d p x q,BE l d p=.ok (x,q)->x.gd
 | 0,p,x,q,h=>by
  unfold BE at h
  split at h<;>cases h
 | d+1,p,x,q,h=>by
  unfold BE at h
  split at h
  ·cases h
  split at h
  ·cases h
  exact YW hw (P7 hw d) _ _ _ ((Msg.gd_iff _).2 ⟨fun x hx=>(by cases hx),fun x hx=>(by cases hx),fun x hx=>(by cases hx),fun x hx=>(by cases hx)⟩) h
theorem L8{l:List Tk}(hw:WdOk l):∀ (n:Nat) (f:Fil) (p:Nat) {g:Fil},f.gd->DW l n f p=.ok g->g.gd
 | 0,f,p,g,hf,h=>by cases h
 | n+1,f,p,g,hf,h=>by
  obtain⟨f1,f2,f3⟩:=hf
  rw[DW]at h
  split at h
  ·split at h
   ·exact L8 hw n f (p+1) ⟨f1,f2,f3⟩ h
   split at h
   ·split at h
    ·cases h
    rename_i m q hm
    refine L8 hw n { f with msgs:=f.msgs++[m] } q ⟨f1,f2,fun k hk=>?_⟩ h
    rcases List.mem_append.1 hk with hk | hk
    ·exact f3 k hk
    ·rw[List.mem_singleton.1 hk]
     exact P7 hw _ _ _ _ hm
   split at h
   ·split at h
    ·cases h
    rename_i m q hm
    refine L8 hw n { f with enums:=f.enums++[m] } q ⟨f1,fun k hk=>?_,f3⟩ h
    rcases List.mem_append.1 hk with hk | hk
    ·exact f2 k hk
    ·rw[List.mem_singleton.1 hk]
     exact Q1x hw hm
   ·cases h
  ·injection h with h
   subst h
   exact⟨f1,f2,f3⟩
theorem ZP{l:List Tk}(hw:WdOk l){f:Fil}(h:FT l=.ok f):f.gd:=by
 rw[KZ]at h
 split at h
 ·cases h
 split at h
 ·cases h
 rename_i pk u hpk
 refine L8 hw _ ⟨pk,[],[]⟩ u ⟨?_,fun x hx=>(by cases hx),fun x hx=>(by cases hx)⟩ h
 show pk.length<=1000000
 unfold DI at hpk
 split at hpk
 ·split at hpk
  ·cases hpk
  rename_i hd
  have h2:=MD hw hd
  split at hpk
  ·cases hpk
  injection hpk with hpk
  injection hpk with h3 h4
  subst h3
  exact h2
 ·injection hpk with hpk
  injection hpk with h1 h2
  subst h1
  decide
theorem XI{s:List UInt8}(hs:s.length<=4000){ts:List (Tok×Nat)}{e ea:Nat}(h:Lex s 0 ts e ea):WdOk (CT s ts):=
 ⟨KA h,by
  have h1:=(h.good (Nat.zero_le _)).1
  have h2:(CT s ts).length=ts.length:=by simp[CT]
  omega⟩
abbrev erA(A:Nat->Addr)(k:Nat):Er:=(tE,.pointer (some (A (k-1))))
abbrev glS(A:Nat->Addr)(m:Int):List (Nat×List Value):=gK::(11,[errV A 9])::(2,[errV A 10])::(12,[errV A 11])::glA A m
theorem Q0b(A:Nat->Addr)(m:Int):OfG (glS A m) A m:=by
 have h:=Q64 A m
 exact⟨⟨.tail _ (.tail _ (.tail _ (.tail _ h.lx.range))),.tail _ (.tail _ (.tail _ (.tail _ h.lx.long))),.tail _ (.tail _ (.tail _ (.tail _ h.lx.form))),.tail _ (.tail _ (.tail _ (.tail _ h.lx.max)))⟩,fun x hx=>.tail _ (.tail _ (.tail _ (.tail _ (h.sub x hx))))⟩
theorem WM(A:Nat->Addr)(m:Int):∀ x,x∈gC (erA A)->x∈glS A m:=fun x hx=>by
 simp only[gC,List.mem_cons,List.not_mem_nil,or_false]at hx
 simp only[glS,glA,List.mem_cons,List.not_mem_nil,or_false]
 rcases hx with rfl | rfl | rfl | rfl | rfl | rfl | rfl
 ·exact .inl rfl
 ·exact .inr (.inr (.inr (.inr (.inl rfl))))
 ·exact .inr (.inr (.inr (.inr (.inr (.inl rfl)))))
 ·exact .inr (.inr (.inr (.inr (.inr (.inr (.inr (.inl rfl)))))))
 ·exact .inr (.inl rfl)
 ·exact .inr (.inr (.inl rfl))
 ·exact .inr (.inr (.inr (.inl rfl)))
abbrev sxT:List UInt8:=[115,121,110,116,97,120,32,61,32,39,112,114,111,116,111,51,39,59,32,109,101,115,115,97,103,101,32,65,32,123,32,114,101,112,101,97,116,101,100,32,105,110,116,51,50,32,120,32,61,32,50,59,32,65,32,97,32,61,32,49,59,32,125]
abbrev sxK:List (Tok×Nat):=[(⟨1,[115,121,110,116,97,120],0⟩,0),(⟨4,[61],0⟩,7),(⟨3,[112,114,111,116,111,51],0⟩,9),(⟨4,[59],0⟩,17),(⟨1,[109,101,115,115,97,103,101],0⟩,19),(⟨1,[65],0⟩,27),(⟨4,[123],0⟩,29),(⟨1,[114,101,112,101,97,116,101,100],0⟩,31),(⟨1,[105,110,116,51,50],0⟩,40),(⟨1,[120],0⟩,46),(⟨4,[61],0⟩,48),(⟨2,[50],2⟩,50),(⟨4,[59],0⟩,51),(⟨1,[65],0⟩,53),(⟨1,[97],0⟩,55),(⟨4,[61],0⟩,57),(⟨2,[49],1⟩,59),(⟨4,[59],0⟩,60),(⟨4,[125],0⟩,62)]
theorem sxL:Lex sxT 0 sxK 0 0:=
 DU (j:=6) (by decide) (by decide +kernel) (by decide +kernel) <|
 F2 (j:=1) (t:=exG) (by decide) (by decide +kernel) (by decide +kernel) <|
 DU (j:=1) (by decide) (by decide +kernel) (by decide +kernel) <|
 F2 (j:=1) (t:=exG) (by decide) (by decide +kernel) (by decide +kernel) <|
 DU (j:=8) (by decide) (by decide +kernel) (by decide +kernel) <|
 DU (j:=1) (by decide) (by decide +kernel) (by decide +kernel) <|
 F2 (j:=1) (t:=exG) (by decide) (by decide +kernel) (by decide +kernel) <|
 DU (j:=7) (by decide) (by decide +kernel) (by decide +kernel) <|
 F2 (j:=1) (t:=exG) (by decide) (by decide +kernel) (by decide +kernel) <|
 DU (j:=1) (by decide) (by decide +kernel) (by decide +kernel) <|
 F2 (j:=1) (t:=exG) (by decide) (by decide +kernel) (by decide +kernel) <|
 DU (j:=1) (by decide) (by decide +kernel) (by decide +kernel) <|
 F2 (j:=1) (t:=exG) (by decide) (by decide +kernel) (by decide +kernel) <|
 DU (j:=8) (by decide) (by decide +kernel) (by decide +kernel) <|
 F2 (j:=1) (t:=exG) (by decide) (by decide +kernel) (by decide +kernel) <|
 DU (j:=5) (by decide) (by decide +kernel) (by decide +kernel) <|
 F2 (j:=1) (t:=exG) (by decide) (by decide +kernel) (by decide +kernel) <|
 DU (j:=1) (by decide) (by decide +kernel) (by decide +kernel) <|
 F2 (j:=1) (t:=exG) (by decide) (by decide +kernel) (by decide +kernel) <|
 DU (j:=1) (by decide) (by decide +kernel) (by decide +kernel) <|
 F2 (j:=1) (t:=exG) (by decide) (by decide +kernel) (by decide +kernel) <|
 DU (j:=1) (by decide) (by decide +kernel) (by decide +kernel) <|
 DU (j:=1) (by decide) (by decide +kernel) (by decide +kernel) <|
 F2 (j:=1) (t:=exG) (by decide) (by decide +kernel) (by decide +kernel) <|
 DU (j:=1) (by decide) (by decide +kernel) (by decide +kernel) <|
 F2 (j:=1) (t:=exG) (by decide) (by decide +kernel) (by decide +kernel) <|
 DU (j:=1) (by decide) (by decide +kernel) (by decide +kernel) <|
 F2 (j:=1) (t:=exG) (by decide) (by decide +kernel) (by decide +kernel) <|
 DU (j:=1) (by decide) (by decide +kernel) (by decide +kernel) <|
 F2 (j:=1) (t:=exG) (by decide) (by decide +kernel) (by decide +kernel) <|
 DU (j:=1) (by decide) (by decide +kernel) (by decide +kernel) <|
 DU (j:=1) (by decide) (by decide +kernel) (by decide +kernel) <|
 F2 (j:=1) (t:=exG) (by decide) (by decide +kernel) (by decide +kernel) <|
 DU (j:=1) (by decide) (by decide +kernel) (by decide +kernel) <|
 .done (by decide)
abbrev sxX:Fld:=⟨[120],[105,110,116,51,50],[],[],3,2,0,0,1,47⟩
abbrev sxA:Fld:=⟨[97],[65],[],[],1,1,0,0,1,56⟩
abbrev sxM:Msg:=.mk [65] [sxX,sxA] [] [] [] [] [] 1 28
abbrev sxF:Fil:=⟨[],[sxM],[]⟩
theorem sxP:FT (CT sxT sxK)=.ok sxF:=by kernel_rfl
abbrev VJ:Ty:=⟨[65],false,0,1,28⟩
theorem Q8e:EX sxF=.ok [VJ]:=by kernel_rfl
theorem Q65:BJ [VJ] [65] [65]=some VJ:=by
 rw[O4,if_neg (by decide),IX]
 show(if([65]:List UInt8)=[]then D2 [65] [VJ]else FM [VJ] [65] (LT [65]))=some VJ
 rw[if_neg (by decide),show LT [65]=[] by decide,IX]
 rfl
theorem Q2J{look look':List UInt8->Option Ty}{m:Msg}{i:Nat}{x:Fld}(h:IA look x.type=IA look' x.type):MI look m i x=MI look' m i x:=by
 unfold MI
 rw[h]
theorem R8{look look':List UInt8->Option Ty}{m:Msg}:∀ {l:List Fld} {i:Nat},(∀ x∈l,IA look x.type=IA look' x.type)->EE look m i l=EE look' m i l
 | [],i,h=>rfl
 | x::l,i,h=>by
  rw[EE,EE,Q2J (h x List.mem_cons_self),R8 (l:=l) fun y hy=>h y (List.mem_cons_of_mem _ hy)]
abbrev sxS:List Mg:=[⟨[65],[⟨[97],1,1,17,0,false,0,0,0⟩,⟨[120],2,3,3,0,true,0,0,0⟩],[]⟩]
theorem sxG:msgM (BJ [VJ]) [65] sxM=.ok ⟨[65],[⟨[97],1,1,17,0,false,0,0,0⟩,⟨[120],2,3,3,0,true,0,0,0⟩],[]⟩:=by
 unfold msgM
 rw[R8 (look':=fun _=>some VJ) (m:=sxM) (i:=0) fun x hx=>by
  rcases List.mem_cons.1 hx with rfl | hx
  ·unfold IA
   rw[if_pos (by decide +kernel),if_pos (by decide +kernel)]
  ·obtain rfl:=List.mem_singleton.1 hx
   unfold IA
   rw[if_neg (by decide +kernel),if_neg (by decide +kernel),Q65]]
 kernel_rfl
theorem sxC:PB sxF=.ok (sxS,[]):=by
 rw[QY,Q8e]
 dsimp only
 unfold VX
 rw[show DG sxF.package=[] from rfl,show sxF.enums=[] from rfl,show sxF.msgs=[sxM] from rfl,SP,S3]
 rw[show([]:List UInt8)++sxM.name=[65] from rfl,sxG]
 dsimp only[addM]
 have mn:∀ (a:List UInt8) (s:Cst),manyM (BJ [VJ]) a [] s=.ok s:=fun a s=>by rw[manyM]
 rw[show sxM.enums=[] from rfl,show sxM.msgs=[] from rfl,SP,mn]
 dsimp only
 rw[mn]
 rfl
theorem sxO{gls:List (Nat×List Value)}{A:Nat->Addr}{m:Int}(hg:OfG gls A m)(hs:∀ x,x∈gC (erA A)->x∈gls):EF Tryz.prog gls 8 [sP sxT] (.tup [TB sxS [],IS]):=by
 have h1:=Q7H hg sxT (by decide) sxK 0 0 sxL
 have ha:Q15 sxT sxK 0 0=K8 (CT sxT sxK):=if_pos rfl
 rw[ha,LZ sxP]at h1
 have hk:=T7 (s:=sxT) (by decide) sxL
 obtain⟨h3,h4⟩:=ZG (by decide) hk.len (KA sxL) sxP
 have h5:=ZI (erA A) 40 (by decide) sxF h3 (ZP (XI (by decide) sxL) sxP) sxT hs h1
 rw[sxC]at h5
 exact h5
set_option maxHeartbeats 2000000 in
theorem P8{gls:List (Nat×List Value)}{A:Nat->Addr}{m:Int}(hg:OfG gls A m)(hs:∀ x,x∈gC (erA A)->x∈gls):EF Tryz.prog gls 7 [] (.part (bP true)):=by
 refine AU 45 Tryz.func7 rfl rfl rfl fun w D=>?_
 try refine A0 ?_
 refine A1 (AE rfl rfl rfl rfl rfl .nil) ?_
 try refine A0 ?_
 refine A8 ?_
 refine AB (AY rfl (by kernel_rfl) (sxO hg hs) ⟨(kn rfl),trivial⟩) ?_
 refine AJ ?_
 refine B3 ?_
 refine B3 ?_
 refine AS 1 [.is (.slice none 0 0),.is (.slice none 0 0)] rfl rfl rfl rfl zr_26 (fun w D M V=>⟨rfl,fun j x v h1 h2=>AR _ h1 h2 rfl⟩) rfl rfl rfl rfl ?_
 refine AI rfl rfl rfl (kn rfl) rfl (kn rfl) rfl rfl sz_26 ?_
 refine AG ?_
 refine A6 ?_
 try refine A0 ?_
 refine A1 (AA rfl rfl rfl rfl rfl (A5 rfl rfl rfl (Q20 rfl (kn rfl) ifc_28) (AA rfl rfl rfl rfl rfl (Walk.gd _ rfl rfl rfl (fun h=>A3 rfl (kn rfl) off_26_0) (Walk.gd _ rfl rfl rfl (fun h=>A4 rfl (A9 rfl h) rfl rfl one_23) (Walk.gd _ rfl rfl rfl (fun h=>CI rfl (A9 rfl h) sle_23) (Walk.gd _ rfl rfl rfl (fun h=>AN rfl (A9 rfl h) (kn rfl) D3) (A5 rfl rfl rfl (EC rfl (kn rfl) (fun hb=>A9 rfl hb)) (AA rfl rfl rfl rfl rfl (Walk.gd _ rfl rfl rfl (fun h=>A3 rfl (kn rfl) off_26_0) (Walk.gd _ rfl rfl rfl (fun h=>A4 rfl (A9 rfl h) rfl rfl one_23) (Walk.gd _ rfl rfl rfl (fun h=>BO rfl (A9 rfl h) (kn rfl) (by omega) (q:=sxS[0]) (f:=mgD) rfl N2 sle_23 esz_23 rfl) (Walk.gd _ rfl rfl rfl (fun h=>AF rfl (A9 rfl h) off_71_1) (Walk.gd _ rfl rfl rfl (fun h=>AD rfl (A9 rfl h) one_69) (Walk.gd _ rfl rfl rfl (fun h=>CI rfl (A9 rfl h) sle_69) (Walk.gd _ rfl rfl rfl (fun h=>AN rfl (A9 rfl h) (kn rfl) D3) (A5 rfl rfl rfl (EC rfl (kn rfl) (fun hb=>A9 rfl hb)) (AA rfl rfl rfl rfl rfl (Walk.gd _ rfl rfl rfl (fun h=>A3 rfl (kn rfl) off_26_0) (Walk.gd _ rfl rfl rfl (fun h=>A4 rfl (A9 rfl h) rfl rfl one_23) (Walk.gd _ rfl rfl rfl (fun h=>BO rfl (A9 rfl h) (kn rfl) (by omega) (q:=sxS[0]) (f:=mgD) rfl N2 sle_23 esz_23 rfl) (Walk.gd _ rfl rfl rfl (fun h=>AF rfl (A9 rfl h) off_71_1) (Walk.gd _ rfl rfl rfl (fun h=>AD rfl (A9 rfl h) one_69) (Walk.gd _ rfl rfl rfl (fun h=>BO rfl (A9 rfl h) (kn rfl) (by omega) (q:=sxS[0].fields[0]) (f:=fdD) rfl G5 sle_69 esz_69 rfl) (Walk.gd _ rfl rfl rfl (fun h=>AF rfl (A9 rfl h) off_61_0) (Walk.gd _ rfl rfl rfl (fun h=>AD rfl (A9 rfl h) one_9) (Walk.gd _ rfl rfl rfl (fun h=>AN rfl (A9 rfl h) (kn rfl) (KJ (b:=[97]))) (A5 rfl rfl rfl (EC rfl (kn rfl) (fun hb=>A9 rfl hb)) (AA rfl rfl rfl rfl rfl (Walk.gd _ rfl rfl rfl (fun h=>A3 rfl (kn rfl) off_26_0) (Walk.gd _ rfl rfl rfl (fun h=>A4 rfl (A9 rfl h) rfl rfl one_23) (Walk.gd _ rfl rfl rfl (fun h=>BO rfl (A9 rfl h) (kn rfl) (by omega) (q:=sxS[0]) (f:=mgD) rfl N2 sle_23 esz_23 rfl) (Walk.gd _ rfl rfl rfl (fun h=>AF rfl (A9 rfl h) off_71_1) (Walk.gd _ rfl rfl rfl (fun h=>AD rfl (A9 rfl h) one_69) (Walk.gd _ rfl rfl rfl (fun h=>BO rfl (A9 rfl h) (kn rfl) (by omega) (q:=sxS[0].fields[1]) (f:=fdD) rfl G5 sle_69 esz_69 rfl) (Walk.gd _ rfl rfl rfl (fun h=>AF rfl (A9 rfl h) off_61_5) (Walk.gd _ rfl rfl rfl (fun h=>AD rfl (A9 rfl h) one_4) (A5 rfl rfl rfl (EC rfl (kn rfl) (fun hb=>A9 rfl hb)) (AE rfl rfl rfl rfl rfl .nil))))))))))))))))))))))))))))))))))))))) ?_
 try refine A0 ?_
 exact AM rfl rfl (.tmp (kn rfl) (.nil)) (Imp.of_eq (by rfl)) rfl
theorem SchOk.le{M:List Mg}{E:List En}(h:SchOk M E):SchLe M E:=
 ⟨by have:=h.al;omega,by have:=h.el;omega,fun g hg=>⟨by have:=(h.ms g hg).len;omega,(h.ms g hg).one⟩,fun e he=>by
  have h1:=(h.es e he).len
  have h2:=(h.es e he).le
  exact⟨by omega,by omega⟩⟩
theorem SchLe.nil:SchLe [] []:=⟨Nat.zero_le _,Nat.zero_le _,fun g hg=>(by cases hg),fun g hg=>(by cases hg)⟩
theorem ZO{w:World}(h:TabK w):∀ (j:Nat) v,OK[j]?=some v->w.cell? ⟨20,j,none⟩=some v:=fun j v hj=>by
 have hl:j<72:=(List.getElem?_eq_some_iff.1 hj).1
 obtain⟨h1,h2,h3,h4⟩:=h
 have hi:j / 4<18:=by omega
 obtain⟨k1,k2,k3,k4⟩:=FW (j / 4) hi
 have e:j=j / 4*4+j % 4:=by omega
 generalize j / 4=i at *
 have hr:j % 4<4:=by omega
 generalize j % 4=r at *
 subst e
 match r,hr with
 | 0,_=>
  rw[Nat.add_zero]at hj ⊢
  rw[k1]at hj
  rw[<- Option.some.inj hj]
  exact h1 i hi
 | 1,_=>
  rw[k2]at hj
  rw[<- Option.some.inj hj]
  exact h2 i hi
 | 2,_=>
  rw[k3]at hj
  rw[<- Option.some.inj hj]
  exact h3 i hi
 | 3,_=>
  rw[k4]at hj
  rw[<- Option.some.inj hj]
  exact h4 i hi
structure GlW (w:World) (A:Nat->Addr) (m:Int):Prop where
 lx:Lx w A m
 dep:w.cell? ⟨10,0,none⟩=some (errV A 7)
 nam:w.cell? ⟨11,0,none⟩=some (errV A 9)
 dup:w.cell? ⟨2,0,none⟩=some (errV A 10)
 knd:w.cell? ⟨12,0,none⟩=some (errV A 11)
 tab:TabK w
theorem Q63{w:World}{A:Nat->Addr}{m:Int}(h:GlW w A m):WX (glS A m) w:=fun g cs hg=>by
 have key:∀ {g:Nat} {v:Value},w.cell? ⟨g,0,none⟩=some v->g<w.heap.size /\ ∀ (j:Nat) u,[v][j]?=some u->w.cell? ⟨g,j,none⟩=some u:=fun{g v} h=>⟨World.block_lt_of_cell? w ⟨g,0,none⟩ h,fun j u hu=>by
  cases j with
  | zero=>cases hu;exact h
  | succ j=>cases hu⟩
 simp only[glS,glA,List.mem_cons,List.not_mem_nil,or_false]at hg
 rcases hg with e | e | e | e | e | e | e | e | e<;>obtain⟨rfl,rfl⟩:=Prod.mk.inj e
 ·exact⟨World.block_lt_of_cell? w ⟨_,0,none⟩ (ZO h.tab 0 _ (FW 0 (by decide)).1),ZO h.tab⟩
 ·exact key h.nam
 ·exact key h.dup
 ·exact key h.knd
 ·exact key h.lx.range
 ·exact key h.lx.long
 ·exact key h.dep
 ·exact key h.lx.form
 ·exact key h.lx.max
section
open Go.RowKit Go.ChangeShapes
theorem LK{P:Program}{w:World}{x:String×DataW Unit}:∀ {l:List (String×DataW Unit)} {ps:List MemPlace},DataW.LaidVars P w (l++[x]) ps -> ∃ qs,DataW.LaidVars P w l qs/\qs.Sublist ps
 | [],ps,_=>⟨[],rfl,List.nil_sublist _⟩
 | (n,d)::r,ps,h=>by
  obtain⟨g,t,cs,fuel,p,q,h1,h2,h3,h4,h5,rfl⟩:=h
  obtain⟨qs,h6,h7⟩:=LK h5
  exact⟨_,⟨g,t,cs,fuel,p,qs,h1,h2,h3,h4,h6,rfl⟩,h7.append_left _⟩
theorem VZ{P:Program}{w:World}{x:String×DataW Unit}{l:List (String×DataW Unit)}(h:laidMet P (l++[x]) w):laidMet P l w:=by
 obtain⟨ps,h1,h2,h3⟩:=h
 obtain⟨qs,h4,h5⟩:=LK h1
 exact⟨qs,h4,h2.sublist h5,fun b off hb=>h3 b off (h5.subset hb)⟩
theorem LN{P:Program}{w:World}{x:String×DataW Unit}:∀ {l:List (String×DataW Unit)} {ps:List MemPlace},DataW.LaidVars P w (l++[x]) ps -> ∃ qs,DataW.LaidVars P w [x] qs/\qs.Sublist ps
 | [],ps,h=>⟨ps,h,List.Sublist.refl _⟩
 | (n,d)::r,ps,h=>by
  obtain⟨g,t,cs,fuel,p,q,h1,h2,h3,h4,h5,rfl⟩:=h
  obtain⟨qs,h6,h7⟩:=LN h5
  exact⟨qs,h6,h7.trans (List.sublist_append_right _ _)⟩
theorem W0{P:Program}{w:World}{x:String×DataW Unit}{l:List (String×DataW Unit)}(h:laidMet P (l++[x]) w):laidMet P [x] w:=by
 obtain⟨ps,h1,h2,h3⟩:=h
 obtain⟨qs,h4,h5⟩:=LN h1
 exact⟨qs,h4,h2.sublist h5,fun b off hb=>h3 b off (h5.subset hb)⟩
abbrev Q7X:String×DataW Unit:=("redline/kinds.rows",Rows.laid_redline_kinds_rows)
theorem Q52{w:World}(h:laidMet Tryz.prog [Q7X] w):TabK w:=Q5y (by rw[MakeChecks.laidMetH_plain _ _ _ (by kernel_rfl)];exact h)
theorem Q3P{l:List (String×DataW Unit)}{W:World}(hl:l=([0,2,7,8,9,10,11].filterMap fun i=>ents[i]?).map Ent.laid++[Q7X])(h:laidMet Tryz.prog l W)(hsh:W.ShapedOpen Tryz.prog):∃ A m,GlW W A m:=by
 subst hl
 obtain⟨A,hA⟩:=Q6G ([0,2,7,8,9,10,11].filterMap fun i=>ents[i]?) (fun e he=>Q5r e (by
  obtain⟨i,_,hi⟩:=List.mem_filterMap.1 he
  exact List.mem_of_getElem? hi)) (VZ h)
 obtain⟨m,hm⟩:=Tryz.laysM219.s1_3 W hsh
 exact⟨fun i=>if i=0 then A 0 else if i=2 then A 1 else if i=7 then A 2 else if i=8 then A 3 else if i=9 then A 4 else if i=10 then A 5 else A 6,m,⟨(hA 0 _ rfl).1,(hA 1 _ rfl).1,(hA 3 _ rfl).1,hm⟩,(hA 2 _ rfl).1,(hA 4 _ rfl).1,(hA 5 _ rfl).1,(hA 6 _ rfl).1,Q52 (W0 h)⟩
theorem T9{W:World}(h:laidMetH Tryz.prog Rows.schemaRightRow.laid W)(hsh:W.ShapedOpen Tryz.prog):∃ A m,GlW W A m:=by
 rw[MakeChecks.laidMetH_plain _ _ _ (by kernel_rfl)]at h
 exact Q3P (by kernel_rfl) h hsh
end
end Go.Proofs.YtgcphgdkddihcaaGreatDoor
