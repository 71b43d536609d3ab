/- Part 23. Conditions: as each theorem says. -/
import Derived.Test.YtecfdcdkkgmkpaaIT22
import Derived.Test.YtecfdcdkkgmkpaaProg
set_option maxRecDepth 100000
namespace Go.Proofs.Ytecfdcdkkgmkpaa
open Go.RowKit
theorem FH{e:Ed}(h:B5 e=true):(e.kind=1\/(e.old=DR/\e.new=DR))/\(e.kind=2\/(e.fields=[]/\e.rests=false/\e.ro=[]/\e.rn=[]))/\(e.kind=3\/e.steps=[])/\(e.kind=4\/e.keys=[]):=by
 obtain⟨h1,h2,h3,h4⟩:=(GQ e).1 (FI h)
 simp only[List.length_eq_zero_iff]at h2 h3 h4
 exact⟨h1.imp id fun h=>⟨DH h.1,DH h.2⟩,h2,h3,h4⟩
theorem X9{e:Ed}(h:B5 e=true)(k:e.kind=1):BB e=.mk e.kind e.new e.old e.fields e.rests e.ro e.rn e.steps e.keys:=by
 obtain⟨_,h2,h3,h4⟩:=FH h
 obtain⟨a,b,c,d⟩:=h2.resolve_left (by omega)
 rw[CC,a,c,d,h3.resolve_left (by omega),h4.resolve_left (by omega)]
 rfl
theorem X0{e:Ed}(h:B5 e=true)(k:e.kind=2):BB e=.mk e.kind e.old e.new (e.fields.map EP) e.rests e.rn e.ro e.steps e.keys:=by
 obtain⟨h1,_,h3,h4⟩:=FH h
 obtain⟨a,b⟩:=h1.resolve_left (by omega)
 rw[CC,a,b,h3.resolve_left (by omega),h4.resolve_left (by omega)]
 rfl
theorem VZ{e:Ed}(h:B5 e=true)(k:e.kind=3):BB e=.mk e.kind e.old e.new e.fields e.rests e.ro e.rn (M6 e.steps) e.keys:=by
 obtain⟨h1,h2,_,h4⟩:=FH h
 obtain⟨a,b⟩:=h1.resolve_left (by omega)
 obtain⟨c,d,f,g⟩:=h2.resolve_left (by omega)
 rw[CC,a,b,c,f,g,h4.resolve_left (by omega)]
 rfl
theorem WP{e:Ed}(h:B5 e=true)(k:e.kind=4):BB e=.mk e.kind e.old e.new e.fields e.rests e.ro e.rn e.steps (e.keys.map FJ):=by
 obtain⟨h1,h2,h3,_⟩:=FH h
 obtain⟨a,b⟩:=h1.resolve_left (by omega)
 obtain⟨c,d,f,g⟩:=h2.resolve_left (by omega)
 rw[CC,a,b,c,f,g,h3.resolve_left (by omega)]
 rfl
theorem WI{e:Ed}(h:B5 e=true)(n1:e.kind≠1)(n2:e.kind≠2)(n3:e.kind≠3)(n4:e.kind≠4):BB e=e:=by
 have k:¬ (e.kind<0\/4<e.kind):=fun h'=>by
  rw[RA h']at h
  cases h
 rw[HI h (by omega)]
 exact MQ
abbrev YT(ty k n:Nat)(v0:Value)(ds:List Dat)(y:IV)(B1:BL)(R1:RL):Prop:=y=EU 1000 v0/\B1=[]/\R1=[(1000,⟨ty,k,n,ds,false⟩)]
theorem YT.tidy{ty k n ty' k' n':Nat}{v0:Value}{ds ds':List Dat}(y:IV)(B1:BL)(R1:RL)(h:YT ty k n v0 ds y B1 R1):QP [] [(1000,⟨ty',k',n',ds',false⟩)] y B1 R1:=by
 obtain⟨rfl,rfl,rfl⟩:=h
 exact⟨rfl,rfl,rfl,rfl⟩
def HA{α:Type}(f:FuncId)(form:α->List Dat)(g:α->α)(x:α):Prop:=∀ (ty k n:Nat) (pre post:List Dat) (v0:Value),Nat.blt ty 1000000=true->EG Try.prog [] f [atP 1000 v0 pre.length] [] [(1000,⟨ty,k,n,pre++(form x++post),false⟩)] (YT ty k n v0 (pre++(form (g x)++post)))
def JL(e:Ed):Prop:=HA 24 ed BB e
theorem NQ(x:Int×Ed)(h:JL x.2):HA 50 efd EP x:=by
 intro ty k n pre post v0 hty
 have hc:=h ty k n (pre++[.cell (.int .i64 x.1)]) post v0 hty
 refine DK 6 Try.func50 rfl rfl rfl fun w D bor mb=>?_
 try refine A1 ?_
 refine DM (ds':=(pre++[.cell (.int .i64 x.1)])++(ed x.2++post)) rfl (by simp[efd]) ?_
 refine AI ?_
 refine BM ?_
 refine AK (BA (OM _ _) rfl (kn rfl)) ?_
 refine AK (JG rfl rfl off_61_1) ?_
 refine AX 4 rfl (Imp.of_eq (y:=atP 1000 v0 (pre++[Dat.cell (.int .i64 x.1)]).length) (by rw[List.length_append];rfl)) ?_
 refine GZ rfl rfl rfl rfl (by kernel_rfl) (hc) trivial ⟨rfl,trivial⟩ ⟨(kn rfl),trivial⟩ (YT.tidy) ?_
 rintro _ _ _ ⟨rfl,rfl,rfl⟩
 refine AH ?_
 try refine A1 ?_
 exact CD (t:=5) [] [(1000,⟨ty,k,n,pre++(efd (EP x)++post),false⟩)] rfl rfl trivial ⟨G0 rfl rfl (by simp[efd,EP]),trivial⟩ ⟨rfl,rfl,rfl⟩
theorem R2(x:Vl×Ed)(h:JL x.2):HA 52 ekd FJ x:=by
 intro ty k n pre post v0 hty
 have hc:=h ty k n (pre++vd x.1) post v0 hty
 refine DK 6 Try.func52 rfl rfl rfl fun w D bor mb=>?_
 try refine A1 ?_
 refine DM (ds':=(pre++vd x.1)++(ed x.2++post)) rfl (by simp[ekd]) ?_
 refine AI ?_
 refine BM ?_
 refine AK (BA (OM _ _) rfl (kn rfl)) ?_
 refine AK (JG rfl rfl off_65_1) ?_
 refine AX 4 rfl (Imp.of_eq (y:=atP 1000 v0 (pre++vd x.1).length) (by rw[List.length_append];rfl)) ?_
 refine GZ rfl rfl rfl rfl (by kernel_rfl) (hc) trivial ⟨rfl,trivial⟩ ⟨(kn rfl),trivial⟩ (YT.tidy) ?_
 rintro _ _ _ ⟨rfl,rfl,rfl⟩
 refine AH ?_
 try refine A1 ?_
 exact CD (t:=5) [] [(1000,⟨ty,k,n,pre++(ekd (FJ x)++post),false⟩)] rfl rfl trivial ⟨G0 rfl rfl (by simp[ekd,FJ]),trivial⟩ ⟨rfl,rfl,rfl⟩
theorem GM{s:Stp}(h:s.2=EJ):B3 s=((CA s.1.1,s.1.2.1,s.1.2.2),s.2):=by
 unfold B3
 rw[h,MQ]
set_option maxHeartbeats 1000000 in
theorem O4(s:Stp)(hs:C6 s=true)(h:JL s.2):HA 27 esd B3 s:=by
 intro ty k n pre post v0 hty
 have hcs:=(DS hs).2
 have hc:=h ty k n (pre++(.cell (.int .i64 s.1.1)::.cell (.int .i64 s.1.2.1)::vd s.1.2.2)) post v0 hty
 refine DK 22 Try.func27 rfl rfl rfl fun w D bor mb=>?_
 try refine A1 ?_
 refine PS 200 (t:=0) rfl ?_
 refine A0 (A8 rfl rfl rfl rfl rfl (A3 rfl rfl rfl (BA (BV _) rfl (kn rfl)) (A3 rfl rfl rfl (B2 rfl (kn rfl) off_76_0) (A3 rfl rfl rfl (CG rfl (kn rfl) rfl (HT (d:=.cell (.int .i64 s.1.1)) rfl) one_3 hty) .nil)))) ?_
 try refine A1 ?_
 refine A0 (A3 rfl rfl rfl (A9 rfl (kn rfl) (kn rfl) AL) (AC rfl rfl rfl rfl rfl .nil)) ?_
 try refine A1 ?_
 refine AE rfl (fun c2=>?_) (fun c2=>?_)
 ·have kk:=of_decide_eq_true c2
  have hz:s.2=EJ:=by
   rcases hcs with⟨a,_⟩ | ⟨_,_,_,b⟩ | ⟨a,_⟩
   ·omega
   ·exact b
   ·omega
  try refine A1 ?_
  refine AI ?_
  refine BM ?_
  refine AK (BA (BV _) rfl (kn rfl)) ?_
  refine AK (B2 rfl (kn rfl) off_76_0) ?_
  refine CL rfl rfl rfl (kn rfl) rfl (kn rfl) rfl (HZ rfl) sz_3 (FW rfl) ?_ hty
  refine AH ?_
  try refine A1 ?_
  exact CD (t:=200) [] [(1000,⟨ty,k,n,pre++(esd (B3 s)++post),false⟩)] rfl rfl trivial ⟨G0 rfl rfl (by rw[GM hz,kk];rfl),trivial⟩ ⟨rfl,rfl,rfl⟩
 have n2:=of_decide_eq_false c2
 try refine A1 ?_
 refine A0 (A3 rfl rfl rfl (A9 rfl (kn rfl) (kn rfl) AL) (AC rfl rfl rfl rfl rfl .nil)) ?_
 try refine A1 ?_
 refine AE rfl (fun c3=>?_) (fun c3=>?_)
 ·have kk:=of_decide_eq_true c3
  have hz:s.2=EJ:=by
   rcases hcs with⟨a,_⟩ | ⟨_,_,_,b⟩ | ⟨a,_⟩
   ·omega
   ·exact b
   ·omega
  try refine A1 ?_
  refine AI ?_
  refine BM ?_
  refine AK (BA (BV _) rfl (kn rfl)) ?_
  refine AK (B2 rfl (kn rfl) off_76_0) ?_
  refine CL rfl rfl rfl (kn rfl) rfl (kn rfl) rfl (HZ rfl) sz_3 (FW rfl) ?_ hty
  refine AH ?_
  try refine A1 ?_
  exact CD (t:=200) [] [(1000,⟨ty,k,n,pre++(esd (B3 s)++post),false⟩)] rfl rfl trivial ⟨G0 rfl rfl (by rw[GM hz,kk];rfl),trivial⟩ ⟨rfl,rfl,rfl⟩
 have n3:=of_decide_eq_false c3
 try refine A1 ?_
 refine A0 (A3 rfl rfl rfl (A9 rfl (kn rfl) (kn rfl) AL) (AC rfl rfl rfl rfl rfl .nil)) ?_
 try refine A1 ?_
 refine AE rfl (fun c4=>?_) (fun c4=>?_)
 ·have k4:=of_decide_eq_true c4
  try refine A1 ?_
  refine DM (ds':=(pre++(.cell (.int .i64 s.1.1)::.cell (.int .i64 s.1.2.1)::vd s.1.2.2))++(ed s.2++post)) rfl (by simp[esd]) ?_
  refine AI ?_
  refine BM ?_
  refine AK (BA (BV _) rfl (kn rfl)) ?_
  refine AK (B2 rfl (kn rfl) off_76_3) ?_
  refine UZ (t:=20) (s:=200) rfl rfl ?_
  refine AX 20 rfl (Imp.of_eq (y:=atP 1000 v0 (pre++(Dat.cell (.int .i64 s.1.1)::.cell (.int .i64 s.1.2.1)::vd s.1.2.2)).length) (by rw[List.length_append];rfl)) ?_
  refine GZ rfl rfl rfl rfl (by kernel_rfl) (hc) trivial ⟨rfl,trivial⟩ ⟨(kn rfl),trivial⟩ (YT.tidy) ?_
  rintro _ _ _ ⟨rfl,rfl,rfl⟩
  refine AH ?_
  try refine A1 ?_
  exact CD (t:=21) [] [(1000,⟨ty,k,n,pre++(esd (B3 s)++post),false⟩)] rfl rfl trivial ⟨G0 rfl rfl (by rw[show B3 s=((s.1.1,s.1.2.1,s.1.2.2),BB s.2) by unfold B3;rw[DA n2 n3]];simp[esd]),trivial⟩ ⟨rfl,rfl,rfl⟩
 have n4:=of_decide_eq_false c4
 have hz:s.2=EJ:=by
  rcases hcs with⟨_,_,_,_,b⟩ | ⟨_,_,_,b⟩ | ⟨a,_⟩
  ·exact b
  ·exact b
  ·omega
 try refine A1 ?_
 exact CD (t:=200) [] [(1000,⟨ty,k,n,pre++(esd (B3 s)++post),false⟩)] rfl rfl trivial ⟨G0 rfl rfl (by rw[GM hz,DA n2 n3]),trivial⟩ ⟨rfl,rfl,rfl⟩
theorem JC{α:Type}{D:α->List Dat}{g:α->α}{l:List α}{k:Nat}{x:α}(hx:l[k]?=some x):((l.take k).map g++l.drop k).flatMap D=((l.take k).map g).flatMap D++(D x++(l.drop (k+1)).flatMap D):=by
 rw[BQ hx,List.flatMap_append,List.flatMap_cons]
theorem HN{α:Type}{D:α->List Dat}{g:α->α}{l:List α}{k:Nat}{x:α}(hx:l[k]?=some x):((l.take k).map g).flatMap D++(D (g x)++(l.drop (k+1)).flatMap D)=((l.take (k+1)).map g++l.drop (k+1)).flatMap D:=by
 rw[List.take_add_one,hx]
 simp
theorem IX{α:Type}{D:α->List Dat}{w:Nat}(h:∀ a,(D a).length=w)(l:List α):(l.flatMap D).length=l.length*w:=by
 induction l with
 | nil=>simp
 | cons s p ih=>rw[List.flatMap_cons,List.length_append,ih,h,List.length_cons,Nat.add_mul];omega
theorem J7{α:Type}{D:α->List Dat}(h:∀ a,(D a).all Dat.isOne=true)(l:List α):(l.flatMap D).all Dat.isOne=true:=by
 rw[List.all_eq_true]
 intro d hd
 obtain⟨s,_,hs⟩:=List.mem_flatMap.1 hd
 exact List.all_eq_true.1 (h s) d hs
theorem Q3(f:FuncId):Imp (.part (fP f)) (.clo (.func f) [] []):=fun _ _ _ _ _ h=>Lies.cell_eq h
theorem T4(p:Int×Ed):(CP p).all Dat.isOne=true:=by rw[CO];rfl
theorem SW(p:Stp):(BF p).all Dat.isOne=true:=by rw[BX];rfl
theorem T1(p:Vl×Ed):(CM p).all Dat.isOne=true:=by rw[CN];rfl
set_option maxHeartbeats 1000000 in
theorem KJ(f:FuncId)(hfc:AU Try.prog f=true)(l:List (Int×Ed))(hl:l.length<=80)(h:∀ x∈l,HA f CP EP x):EF Try.prog [] 49 [.one (.row 22 l.length (l.flatMap CP)),fP f] (.part (.one (.row 22 (l.map EP).length ((l.map EP).flatMap CP)))):=by
 refine AF 21 Try.func49 rfl rfl rfl fun w D=>?_
 try refine A1 ?_
 refine A0 (AC rfl rfl rfl rfl rfl .nil) ?_
 try refine A1 ?_
 refine AI ?_
 refine BM ?_
 refine HQ 1000 rfl rfl rfl rfl (by kernel_rfl) (LF l.length (by omega) _ (J7 T4 l)) ⟨kn rfl,trivial⟩ rfl rfl ?_
 refine C7 ?_
 refine AH ?_
 try refine A1 ?_
 refine A0 (A8 rfl rfl rfl rfl rfl (A3 rfl rfl rfl (H3 rfl (kn rfl) rfl sle_28) (A8 rfl rfl rfl rfl rfl .nil))) ?_
 try refine A1 ?_
 refine NR (t:=5) rfl (fun v0=>?_)
 refine HH 18 (t:=5) rfl ?_
 refine BG (ι:={ i:Nat // i<=l.length })
  (fun i=>[(1,.part (fP f)),(5,.is v0),(10,.is (.int .i64 (l.length:Int))),(11,.is (.int .i64 (i.1:Int))),(18,EU 1000 v0)])
  (fun _=>[]) (fun i=>[(1000,⟨61,22,l.length,((l.take i.1).map EP++l.drop i.1).flatMap CP,false⟩)]) (fun i=>l.length-i.1) ⟨0,by omega⟩
  (fun K=>AN ⟨s_t,⟨_,rfl,QN _ _⟩,s_t,s_t,s_t,trivial⟩ trivial ⟨rfl,trivial⟩) ?_
 rintro⟨i,hi⟩
 dsimp only at hi ⊢
 try refine A1 ?_
 refine A0 (A3 rfl rfl rfl (A9 rfl (kn rfl) (kn rfl) BJ) .nil) ?_
 try refine A1 ?_
 refine AE rfl (fun c=>?_) (fun c=>?_)
 ·have hlt:i<l.length:=by have:=of_decide_eq_true c;omega
  obtain⟨x,hx⟩:∃ x,l[i]?=some x:=⟨_,List.getElem?_eq_getElem hlt⟩
  have hil:((l.take i).map EP).length=i:=by rw[List.length_map,List.length_take];omega
  have hc:=h x (List.mem_of_getElem? hx) 61 22 l.length (((l.take i).map EP).flatMap CP) ((l.drop (i+1)).flatMap CP) v0 rfl
  try refine A1 ?_
  refine A0 (A8 rfl rfl rfl rfl rfl (AC rfl rfl rfl rfl rfl .nil)) ?_
  try refine A1 ?_
  refine AI ?_
  refine BM ?_
  refine BM ?_
  refine BM ?_
  refine NL (t:=15) (s:=18) rfl rfl ?_
  refine AK (HL rfl rfl rfl rfl rfl ⟨Int.natCast_nonneg _,Int.ofNat_lt.2 hlt⟩ sle_28 esz_28) ?_
  refine AX 17 rfl (Imp.of_eq (y:=atP 1000 v0 (((l.take i).map EP).flatMap CP).length) (by rw[IX CQ,hil];rfl)) ?_
  refine AX 14 rfl (Q3 f) ?_
  refine DM rfl (JC hx) ?_
  refine DY (zs:=[_]) rfl rfl rfl rfl hfc (hc) trivial ⟨rfl,trivial⟩ (kn rfl) ⟨(kn rfl),trivial⟩ rfl (YT.tidy) ?_
  rintro _ _ _ ⟨rfl,rfl,rfl⟩
  refine AH ?_
  try refine A1 ?_
  refine DM rfl (HN hx) ?_
  refine A0 (A3 rfl rfl rfl (A9 rfl (kn rfl) (kn rfl) (AO (by first | omega | (dsimp only;omega)))) (A8 rfl rfl rfl rfl rfl .nil)) ?_
  try refine A1 ?_
  refine AT ⟨i+1,by omega⟩ (by dsimp only;omega) (fun K=>AN ⟨s_t,s_t,s_t,s_t,s_t,trivial⟩ trivial ⟨rfl,trivial⟩)
 obtain rfl:i=l.length:=by have:=of_decide_eq_false c;omega
 try refine A1 ?_
 refine NV (t:=5) (s:=18) rfl rfl ?_
 refine A0 (A8 rfl rfl rfl rfl rfl (AC rfl rfl rfl rfl rfl .nil)) ?_
 try refine A1 ?_
 refine DU 4 1000 rfl rfl rfl ?_
 exact A7 rfl rfl (.tmp (kn rfl) (.nil)) (Imp.of_eq (by rw[List.take_length,List.drop_length,List.append_nil,List.length_map];rfl)) rfl
set_option maxHeartbeats 1000000 in
theorem M0(f:FuncId)(hfc:AU Try.prog f=true)(l:List (Stp))(hl:l.length<=80)(h:∀ x∈l,HA f BF B3 x):EF Try.prog [] 26 [.one (.row 30 l.length (l.flatMap BF)),fP f] (.part (.one (.row 30 (l.map B3).length ((l.map B3).flatMap BF)))):=by
 refine AF 21 Try.func26 rfl rfl rfl fun w D=>?_
 try refine A1 ?_
 refine A0 (AC rfl rfl rfl rfl rfl .nil) ?_
 try refine A1 ?_
 refine AI ?_
 refine BM ?_
 refine HQ 1000 rfl rfl rfl rfl (by kernel_rfl) (M3 l.length (by omega) _ (J7 SW l)) ⟨kn rfl,trivial⟩ rfl rfl ?_
 refine C7 ?_
 refine AH ?_
 try refine A1 ?_
 refine A0 (A8 rfl rfl rfl rfl rfl (A3 rfl rfl rfl (H3 rfl (kn rfl) rfl sle_29) (A8 rfl rfl rfl rfl rfl .nil))) ?_
 try refine A1 ?_
 refine NR (t:=5) rfl (fun v0=>?_)
 refine HH 18 (t:=5) rfl ?_
 refine BG (ι:={ i:Nat // i<=l.length })
  (fun i=>[(1,.part (fP f)),(5,.is v0),(10,.is (.int .i64 (l.length:Int))),(11,.is (.int .i64 (i.1:Int))),(18,EU 1000 v0)])
  (fun _=>[]) (fun i=>[(1000,⟨76,30,l.length,((l.take i.1).map B3++l.drop i.1).flatMap BF,false⟩)]) (fun i=>l.length-i.1) ⟨0,by omega⟩
  (fun K=>AN ⟨s_t,⟨_,rfl,QN _ _⟩,s_t,s_t,s_t,trivial⟩ trivial ⟨rfl,trivial⟩) ?_
 rintro⟨i,hi⟩
 dsimp only at hi ⊢
 try refine A1 ?_
 refine A0 (A3 rfl rfl rfl (A9 rfl (kn rfl) (kn rfl) BJ) .nil) ?_
 try refine A1 ?_
 refine AE rfl (fun c=>?_) (fun c=>?_)
 ·have hlt:i<l.length:=by have:=of_decide_eq_true c;omega
  obtain⟨x,hx⟩:∃ x,l[i]?=some x:=⟨_,List.getElem?_eq_getElem hlt⟩
  have hil:((l.take i).map B3).length=i:=by rw[List.length_map,List.length_take];omega
  have hc:=h x (List.mem_of_getElem? hx) 76 30 l.length (((l.take i).map B3).flatMap BF) ((l.drop (i+1)).flatMap BF) v0 rfl
  try refine A1 ?_
  refine A0 (A8 rfl rfl rfl rfl rfl (AC rfl rfl rfl rfl rfl .nil)) ?_
  try refine A1 ?_
  refine AI ?_
  refine BM ?_
  refine BM ?_
  refine BM ?_
  refine NL (t:=15) (s:=18) rfl rfl ?_
  refine AK (HL rfl rfl rfl rfl rfl ⟨Int.natCast_nonneg _,Int.ofNat_lt.2 hlt⟩ sle_29 esz_29) ?_
  refine AX 17 rfl (Imp.of_eq (y:=atP 1000 v0 (((l.take i).map B3).flatMap BF).length) (by rw[IX C2,hil];rfl)) ?_
  refine AX 14 rfl (Q3 f) ?_
  refine DM rfl (JC hx) ?_
  refine DY (zs:=[_]) rfl rfl rfl rfl hfc (hc) trivial ⟨rfl,trivial⟩ (kn rfl) ⟨(kn rfl),trivial⟩ rfl (YT.tidy) ?_
  rintro _ _ _ ⟨rfl,rfl,rfl⟩
  refine AH ?_
  try refine A1 ?_
  refine DM rfl (HN hx) ?_
  refine A0 (A3 rfl rfl rfl (A9 rfl (kn rfl) (kn rfl) (AO (by first | omega | (dsimp only;omega)))) (A8 rfl rfl rfl rfl rfl .nil)) ?_
  try refine A1 ?_
  refine AT ⟨i+1,by omega⟩ (by dsimp only;omega) (fun K=>AN ⟨s_t,s_t,s_t,s_t,s_t,trivial⟩ trivial ⟨rfl,trivial⟩)
 obtain rfl:i=l.length:=by have:=of_decide_eq_false c;omega
 try refine A1 ?_
 refine NV (t:=5) (s:=18) rfl rfl ?_
 refine A0 (A8 rfl rfl rfl rfl rfl (AC rfl rfl rfl rfl rfl .nil)) ?_
 try refine A1 ?_
 refine DU 4 1000 rfl rfl rfl ?_
 exact A7 rfl rfl (.tmp (kn rfl) (.nil)) (Imp.of_eq (by rw[List.take_length,List.drop_length,List.append_nil,List.length_map];rfl)) rfl
set_option maxHeartbeats 1000000 in
theorem NN(f:FuncId)(hfc:AU Try.prog f=true)(l:List (Vl×Ed))(hl:l.length<=80)(h:∀ x∈l,HA f CM FJ x):EF Try.prog [] 51 [.one (.row 28 l.length (l.flatMap CM)),fP f] (.part (.one (.row 28 (l.map FJ).length ((l.map FJ).flatMap CM)))):=by
 refine AF 21 Try.func51 rfl rfl rfl fun w D=>?_
 try refine A1 ?_
 refine A0 (AC rfl rfl rfl rfl rfl .nil) ?_
 try refine A1 ?_
 refine AI ?_
 refine BM ?_
 refine HQ 1000 rfl rfl rfl rfl (by kernel_rfl) (NM l.length (by omega) _ (J7 T1 l)) ⟨kn rfl,trivial⟩ rfl rfl ?_
 refine C7 ?_
 refine AH ?_
 try refine A1 ?_
 refine A0 (A8 rfl rfl rfl rfl rfl (A3 rfl rfl rfl (H3 rfl (kn rfl) rfl sle_30) (A8 rfl rfl rfl rfl rfl .nil))) ?_
 try refine A1 ?_
 refine NR (t:=5) rfl (fun v0=>?_)
 refine HH 18 (t:=5) rfl ?_
 refine BG (ι:={ i:Nat // i<=l.length })
  (fun i=>[(1,.part (fP f)),(5,.is v0),(10,.is (.int .i64 (l.length:Int))),(11,.is (.int .i64 (i.1:Int))),(18,EU 1000 v0)])
  (fun _=>[]) (fun i=>[(1000,⟨65,28,l.length,((l.take i.1).map FJ++l.drop i.1).flatMap CM,false⟩)]) (fun i=>l.length-i.1) ⟨0,by omega⟩
  (fun K=>AN ⟨s_t,⟨_,rfl,QN _ _⟩,s_t,s_t,s_t,trivial⟩ trivial ⟨rfl,trivial⟩) ?_
 rintro⟨i,hi⟩
 dsimp only at hi ⊢
 try refine A1 ?_
 refine A0 (A3 rfl rfl rfl (A9 rfl (kn rfl) (kn rfl) BJ) .nil) ?_
 try refine A1 ?_
 refine AE rfl (fun c=>?_) (fun c=>?_)
 ·have hlt:i<l.length:=by have:=of_decide_eq_true c;omega
  obtain⟨x,hx⟩:∃ x,l[i]?=some x:=⟨_,List.getElem?_eq_getElem hlt⟩
  have hil:((l.take i).map FJ).length=i:=by rw[List.length_map,List.length_take];omega
  have hc:=h x (List.mem_of_getElem? hx) 65 28 l.length (((l.take i).map FJ).flatMap CM) ((l.drop (i+1)).flatMap CM) v0 rfl
  try refine A1 ?_
  refine A0 (A8 rfl rfl rfl rfl rfl (AC rfl rfl rfl rfl rfl .nil)) ?_
  try refine A1 ?_
  refine AI ?_
  refine BM ?_
  refine BM ?_
  refine BM ?_
  refine NL (t:=15) (s:=18) rfl rfl ?_
  refine AK (HL rfl rfl rfl rfl rfl ⟨Int.natCast_nonneg _,Int.ofNat_lt.2 hlt⟩ sle_30 esz_30) ?_
  refine AX 17 rfl (Imp.of_eq (y:=atP 1000 v0 (((l.take i).map FJ).flatMap CM).length) (by rw[IX CS,hil];rfl)) ?_
  refine AX 14 rfl (Q3 f) ?_
  refine DM rfl (JC hx) ?_
  refine DY (zs:=[_]) rfl rfl rfl rfl hfc (hc) trivial ⟨rfl,trivial⟩ (kn rfl) ⟨(kn rfl),trivial⟩ rfl (YT.tidy) ?_
  rintro _ _ _ ⟨rfl,rfl,rfl⟩
  refine AH ?_
  try refine A1 ?_
  refine DM rfl (HN hx) ?_
  refine A0 (A3 rfl rfl rfl (A9 rfl (kn rfl) (kn rfl) (AO (by first | omega | (dsimp only;omega)))) (A8 rfl rfl rfl rfl rfl .nil)) ?_
  try refine A1 ?_
  refine AT ⟨i+1,by omega⟩ (by dsimp only;omega) (fun K=>AN ⟨s_t,s_t,s_t,s_t,s_t,trivial⟩ trivial ⟨rfl,trivial⟩)
 obtain rfl:i=l.length:=by have:=of_decide_eq_false c;omega
 try refine A1 ?_
 refine NV (t:=5) (s:=18) rfl rfl ?_
 refine A0 (A8 rfl rfl rfl rfl rfl (AC rfl rfl rfl rfl rfl .nil)) ?_
 try refine A1 ?_
 refine DU 4 1000 rfl rfl rfl ?_
 exact A7 rfl rfl (.tmp (kn rfl) (.nil)) (Imp.of_eq (by rw[List.take_length,List.drop_length,List.append_nil,List.length_map];rfl)) rfl
theorem L6{α:Type}{f:FuncId}{D D':α->List Dat}{g:α->α}{x:α}(hD:∀ a,D' a=D a)(h:HA f D g x):HA f D' g x:=by
 unfold HA at *
 rw[hD,hD]
 exact h
theorem SB{l:List Stp}(hr:BE C6 C3 none l=true):BE (fun _=>true) UT none (l.map B3)=true:=by
 have:=E4 B3 (fun _=>true) UT none l
 rw[Option.map_none]at this
 rw[this]
 refine IB (fun _ _ _=>rfl) (fun p x h=>?_) hr
 unfold C3 at h
 unfold UT
 rw[C4,C4]
 by_cases h1:p.1.1=1
 ·rw[if_pos h1]at h
  simp only[Bool.not_eq_true',decide_eq_false_iff_not]at h
  have:CA x.1.1≠1:=by unfold CA;repeat' split;all_goals omega
  simp[this]
 ·have:CA p.1.1≠1:=by unfold CA;repeat' split;all_goals omega
  simp[this]
theorem S4(l:List Stp)(hl:l.length<=80)(hr:BE C6 C3 none l=true)(hk:∀ s∈l,JL s.2)(hi:∀ s∈l,B5 (BB s.2)=true):EF Try.prog [] 12 [.one (.row 30 l.length (l.flatMap BF))] (.part (.one (.row 30 (M6 l).length ((M6 l).flatMap BF)))):=by
 have ht:=W5 (l.map B3) (by rw[List.length_map];exact hl) (fun s hs=>by
  obtain⟨u,hu,rfl⟩:=List.mem_map.1 hs
  exact KY (E0 hr u hu) (hi u hu)) (SB hr)
 refine AF 6 Try.func12 rfl rfl rfl fun w D=>?_
 try refine A1 ?_
 refine A0 (AC rfl rfl rfl rfl rfl .nil) ?_
 try refine A1 ?_
 refine A0 (A8 rfl rfl rfl rfl rfl (A3 rfl rfl rfl (AG rfl (by kernel_rfl) (M0 27 (by kernel_rfl) l hl (fun s hs=>L6 BX (O4 s (E0 hr s hs) (hk s hs)))) ⟨(kn rfl),⟨(kn rfl),trivial⟩⟩) (A3 rfl rfl rfl (AG rfl (by kernel_rfl) (ht) ⟨(kn rfl),trivial⟩) (AC rfl rfl rfl rfl rfl .nil)))) ?_
 try refine A1 ?_
 exact A7 rfl rfl (.tmp (kn rfl) (.nil)) (Imp.of_eq rfl) rfl
end Go.Proofs.Ytecfdcdkkgmkpaa
