/- Part 26. Conditions: as each theorem says. -/
import Derived.Test.YtecfdcdkkgmkpaaIO25
import Derived.Test.YtecfdcdkkgmkpaaProg
set_option maxRecDepth 100000
namespace Go.Proofs.Ytecfdcdkkgmkpaa
open Go.RowKit
theorem FU{e:Ed}(h:B3 e=true):(e.kind=1\/(e.old=DJ/\e.new=DJ))/\(e.kind=2\/(e.fields=[]/\e.rests=false/\e.ro=[]/\e.rn=[]))/\(e.kind=3\/e.steps=[])/\(e.kind=4\/e.keys=[]):=by
 obtain⟨h1,h2,h3,h4⟩:=(H4 e).1 (FV h)
 simp only[List.length_eq_zero_iff]at h2 h3 h4
 exact⟨h1.imp id fun h=>⟨DW h.1,DW h.2⟩,h2,h3,h4⟩
theorem X9{e:Ed}(h:B3 e=true)(k:e.kind=1):BT e=.mk e.kind e.new e.old e.fields e.rests e.ro e.rn e.steps e.keys:=by
 obtain⟨_,h2,h3,h4⟩:=FU h
 obtain⟨a,b,c,d⟩:=h2.resolve_left (by omega)
 rw[CL,a,c,d,h3.resolve_left (by omega),h4.resolve_left (by omega)]
 rfl
theorem WW{e:Ed}(h:B3 e=true)(k:e.kind=2):BT e=.mk e.kind e.old e.new (e.fields.map FE) e.rests e.rn e.ro e.steps e.keys:=by
 obtain⟨h1,_,h3,h4⟩:=FU h
 obtain⟨a,b⟩:=h1.resolve_left (by omega)
 rw[CL,a,b,h3.resolve_left (by omega),h4.resolve_left (by omega)]
 rfl
theorem VM{e:Ed}(h:B3 e=true)(k:e.kind=3):BT e=.mk e.kind e.old e.new e.fields e.rests e.ro e.rn (QY e.steps) e.keys:=by
 obtain⟨h1,h2,_,h4⟩:=FU h
 obtain⟨a,b⟩:=h1.resolve_left (by omega)
 obtain⟨c,d,f,g⟩:=h2.resolve_left (by omega)
 rw[CL,a,b,c,f,g,h4.resolve_left (by omega)]
 rfl
theorem WC{e:Ed}(h:B3 e=true)(k:e.kind=4):BT e=.mk e.kind e.old e.new e.fields e.rests e.ro e.rn e.steps (e.keys.map G9):=by
 obtain⟨h1,h2,h3,_⟩:=FU h
 obtain⟨a,b⟩:=h1.resolve_left (by omega)
 obtain⟨c,d,f,g⟩:=h2.resolve_left (by omega)
 rw[CL,a,b,c,f,g,h3.resolve_left (by omega)]
 rfl
theorem WN{e:Ed}(h:B3 e=true)(n1:e.kind≠1)(n2:e.kind≠2)(n3:e.kind≠3)(n4:e.kind≠4):BT e=e:=by
 have k:¬ (e.kind<0\/4<e.kind):=fun h'=>by
  rw[RJ h']at h
  cases h
 rw[HX h (by omega)]
 exact MU
abbrev YT(ty k n:Nat)(v0:Value)(ds:List Dat)(y:IV)(B1:BL)(R1:RL):Prop:=y=F4 1000 v0/\B1=[]/\R1=[(1000,⟨ty,k,n,ds,false⟩)]
theorem YT.tidy{ty k n ty' k' n':Nat}{v0:Value}{ds ds':List Dat}(y:IV)(B1:BL)(R1:RL)(h:YT ty k n v0 ds y B1 R1):QE [] [(1000,⟨ty',k',n',ds',false⟩)] y B1 R1:=by
 obtain⟨rfl,rfl,rfl⟩:=h
 exact⟨rfl,rfl,rfl,rfl⟩
def HI{α:Type}(f:FuncId)(form:α->List Dat)(g:α->α)(x:α):Prop:=∀ (ty k n:Nat) (pre post:List Dat) (v0:Value),Nat.blt ty 1000000=true->EG Try.prog [] f [atP 1000 v0 pre.length] [] [(1000,⟨ty,k,n,pre++(form x++post),false⟩)] (YT ty k n v0 (pre++(form (g x)++post)))
def JY(e:Ed):Prop:=HI 24 ed BT e
theorem NY(x:Int×Ed)(h:JY x.2):HI 50 efd FE x:=by
 intro ty k n pre post v0 hty
 have hc:=h ty k n (pre++[.cell (.int .i64 x.1)]) post v0 hty
 refine ET 6 Try.func50 rfl rfl rfl fun w D bor mb=>?_
 try refine A2 ?_
 refine CP (ds':=(pre++[.cell (.int .i64 x.1)])++(ed x.2++post)) rfl (by simp[efd]) ?_
 refine AF ?_
 refine BA ?_
 refine AG (BE (Q7 _ _) rfl (kn rfl)) ?_
 refine AG (K0 rfl rfl off_61_1) ?_
 refine C0 4 rfl (Imp.of_eq (y:=atP 1000 v0 (pre++[Dat.cell (.int .i64 x.1)]).length) (by rw[List.length_append];rfl)) ?_
 refine IZ rfl rfl rfl rfl (by kernel_rfl) (hc) trivial ⟨rfl,trivial⟩ ⟨(kn rfl),trivial⟩ (YT.tidy) ?_
 rintro _ _ _ ⟨rfl,rfl,rfl⟩
 refine AD ?_
 try refine A2 ?_
 exact CN (t:=5) [] [(1000,⟨ty,k,n,pre++(efd (FE x)++post),false⟩)] rfl rfl trivial ⟨DK rfl rfl (by simp[efd,FE]),trivial⟩ ⟨rfl,rfl,rfl⟩
theorem QU(x:Vl×Ed)(h:JY x.2):HI 52 ekd G9 x:=by
 intro ty k n pre post v0 hty
 have hc:=h ty k n (pre++vd x.1) post v0 hty
 refine ET 6 Try.func52 rfl rfl rfl fun w D bor mb=>?_
 try refine A2 ?_
 refine CP (ds':=(pre++vd x.1)++(ed x.2++post)) rfl (by simp[ekd]) ?_
 refine AF ?_
 refine BA ?_
 refine AG (BE (Q7 _ _) rfl (kn rfl)) ?_
 refine AG (K0 rfl rfl off_65_1) ?_
 refine C0 4 rfl (Imp.of_eq (y:=atP 1000 v0 (pre++vd x.1).length) (by rw[List.length_append];rfl)) ?_
 refine IZ rfl rfl rfl rfl (by kernel_rfl) (hc) trivial ⟨rfl,trivial⟩ ⟨(kn rfl),trivial⟩ (YT.tidy) ?_
 rintro _ _ _ ⟨rfl,rfl,rfl⟩
 refine AD ?_
 try refine A2 ?_
 exact CN (t:=5) [] [(1000,⟨ty,k,n,pre++(ekd (G9 x)++post),false⟩)] rfl rfl trivial ⟨DK rfl rfl (by simp[ekd,G9]),trivial⟩ ⟨rfl,rfl,rfl⟩
theorem GG{s:Stp}(h:s.2=EZ):BQ s=((D2 s.1.1,s.1.2.1,s.1.2.2),s.2):=by
 unfold BQ
 rw[h,MU]
set_option maxHeartbeats 1000000 in
theorem PN(s:Stp)(hs:C2 s=true)(h:JY s.2):HI 27 esd BQ s:=by
 intro ty k n pre post v0 hty
 have hcs:=(C9 hs).2
 have hc:=h ty k n (pre++(.cell (.int .i64 s.1.1)::.cell (.int .i64 s.1.2.1)::vd s.1.2.2)) post v0 hty
 refine ET 22 Try.func27 rfl rfl rfl fun w D bor mb=>?_
 try refine A2 ?_
 refine OP 200 (t:=0) rfl ?_
 refine A1 (A9 rfl rfl rfl rfl rfl (A4 rfl rfl rfl (BE (C3 _) rfl (kn rfl)) (A4 rfl rfl rfl (AZ rfl (kn rfl) off_76_0) (A4 rfl rfl rfl (CC rfl (kn rfl) rfl (HU (d:=.cell (.int .i64 s.1.1)) rfl) one_3 hty) .nil)))) ?_
 try refine A2 ?_
 refine A1 (A4 rfl rfl rfl (A6 rfl (kn rfl) (kn rfl) AO) (AC rfl rfl rfl rfl rfl .nil)) ?_
 try refine A2 ?_
 refine AA rfl (fun c2=>?_) (fun c2=>?_)
 ·have kk:=of_decide_eq_true c2
  have hz:s.2=EZ:=by
   rcases hcs with⟨a,_⟩ | ⟨_,_,_,b⟩ | ⟨a,_⟩
   ·omega
   ·exact b
   ·omega
  try refine A2 ?_
  refine AF ?_
  refine BA ?_
  refine AG (BE (C3 _) rfl (kn rfl)) ?_
  refine AG (AZ rfl (kn rfl) off_76_0) ?_
  refine CS rfl rfl rfl (kn rfl) rfl (kn rfl) rfl (I3 rfl) sz_3 (FZ rfl) ?_ hty
  refine AD ?_
  try refine A2 ?_
  exact CN (t:=200) [] [(1000,⟨ty,k,n,pre++(esd (BQ s)++post),false⟩)] rfl rfl trivial ⟨DK rfl rfl (by rw[GG hz,kk];rfl),trivial⟩ ⟨rfl,rfl,rfl⟩
 have n2:=of_decide_eq_false c2
 try refine A2 ?_
 refine A1 (A4 rfl rfl rfl (A6 rfl (kn rfl) (kn rfl) AO) (AC rfl rfl rfl rfl rfl .nil)) ?_
 try refine A2 ?_
 refine AA rfl (fun c3=>?_) (fun c3=>?_)
 ·have kk:=of_decide_eq_true c3
  have hz:s.2=EZ:=by
   rcases hcs with⟨a,_⟩ | ⟨_,_,_,b⟩ | ⟨a,_⟩
   ·omega
   ·exact b
   ·omega
  try refine A2 ?_
  refine AF ?_
  refine BA ?_
  refine AG (BE (C3 _) rfl (kn rfl)) ?_
  refine AG (AZ rfl (kn rfl) off_76_0) ?_
  refine CS rfl rfl rfl (kn rfl) rfl (kn rfl) rfl (I3 rfl) sz_3 (FZ rfl) ?_ hty
  refine AD ?_
  try refine A2 ?_
  exact CN (t:=200) [] [(1000,⟨ty,k,n,pre++(esd (BQ s)++post),false⟩)] rfl rfl trivial ⟨DK rfl rfl (by rw[GG hz,kk];rfl),trivial⟩ ⟨rfl,rfl,rfl⟩
 have n3:=of_decide_eq_false c3
 try refine A2 ?_
 refine A1 (A4 rfl rfl rfl (A6 rfl (kn rfl) (kn rfl) AO) (AC rfl rfl rfl rfl rfl .nil)) ?_
 try refine A2 ?_
 refine AA rfl (fun c4=>?_) (fun c4=>?_)
 ·have k4:=of_decide_eq_true c4
  try refine A2 ?_
  refine CP (ds':=(pre++(.cell (.int .i64 s.1.1)::.cell (.int .i64 s.1.2.1)::vd s.1.2.2))++(ed s.2++post)) rfl (by simp[esd]) ?_
  refine AF ?_
  refine BA ?_
  refine AG (BE (C3 _) rfl (kn rfl)) ?_
  refine AG (AZ rfl (kn rfl) off_76_3) ?_
  refine UM (t:=20) (s:=200) rfl rfl ?_
  refine C0 20 rfl (Imp.of_eq (y:=atP 1000 v0 (pre++(Dat.cell (.int .i64 s.1.1)::.cell (.int .i64 s.1.2.1)::vd s.1.2.2)).length) (by rw[List.length_append];rfl)) ?_
  refine IZ rfl rfl rfl rfl (by kernel_rfl) (hc) trivial ⟨rfl,trivial⟩ ⟨(kn rfl),trivial⟩ (YT.tidy) ?_
  rintro _ _ _ ⟨rfl,rfl,rfl⟩
  refine AD ?_
  try refine A2 ?_
  exact CN (t:=21) [] [(1000,⟨ty,k,n,pre++(esd (BQ s)++post),false⟩)] rfl rfl trivial ⟨DK rfl rfl (by rw[show BQ s=((s.1.1,s.1.2.1,s.1.2.2),BT s.2) by unfold BQ;rw[EU n2 n3]];simp[esd]),trivial⟩ ⟨rfl,rfl,rfl⟩
 have n4:=of_decide_eq_false c4
 have hz:s.2=EZ:=by
  rcases hcs with⟨_,_,_,_,b⟩ | ⟨_,_,_,b⟩ | ⟨a,_⟩
  ·exact b
  ·exact b
  ·omega
 try refine A2 ?_
 exact CN (t:=200) [] [(1000,⟨ty,k,n,pre++(esd (BQ s)++post),false⟩)] rfl rfl trivial ⟨DK rfl rfl (by rw[GG hz,EU n2 n3]),trivial⟩ ⟨rfl,rfl,rfl⟩
theorem JL{α:Type}{D:α->List Dat}{g:α->α}{l:List α}{k:Nat}{x:α}(hx:l[k]?=some x):((l.take k).map g++l.drop k).flatMap D=((l.take k).map g).flatMap D++(D x++(l.drop (k+1)).flatMap D):=by
 rw[B6 hx,List.flatMap_append,List.flatMap_cons]
theorem ID{α:Type}{D:α->List Dat}{g:α->α}{l:List α}{k:Nat}{x:α}(hx:l[k]?=some x):((l.take k).map g).flatMap D++(D (g x)++(l.drop (k+1)).flatMap D)=((l.take (k+1)).map g++l.drop (k+1)).flatMap D:=by
 rw[List.take_add_one,hx]
 simp
theorem JF{α:Type}{D:α->List Dat}{w:Nat}(h:∀ a,(D a).length=w)(l:List α):(l.flatMap D).length=l.length*w:=by
 induction l with
 | nil=>simp
 | cons s p ih=>rw[List.flatMap_cons,List.length_append,ih,h,List.length_cons,Nat.add_mul];omega
theorem JJ{α:Type}{D:α->List Dat}(h:∀ a,(D a).all Dat.isOne=true)(l:List α):(l.flatMap D).all Dat.isOne=true:=by
 rw[List.all_eq_true]
 intro d hd
 obtain⟨s,_,hs⟩:=List.mem_flatMap.1 hd
 exact List.all_eq_true.1 (h s) d hs
theorem RD(f:FuncId):Imp (.part (fP f)) (.clo (.func f) [] []):=fun _ _ _ _ _ h=>Lies.cell_eq h
theorem SX(p:Int×Ed):(D3 p).all Dat.isOne=true:=by rw[CD];rfl
theorem S8(p:Stp):(B5 p).all Dat.isOne=true:=by rw[BJ];rfl
theorem SF(p:Vl×Ed):(D4 p).all Dat.isOne=true:=by rw[CG];rfl
set_option maxHeartbeats 1000000 in
theorem KK(f:FuncId)(hfc:B8 Try.prog f=true)(l:List (Int×Ed))(hl:l.length<=80)(h:∀ x∈l,HI f D3 FE x):EF Try.prog [] 49 [.one (.row 22 l.length (l.flatMap D3)),fP f] (.part (.one (.row 22 (l.map FE).length ((l.map FE).flatMap D3)))):=by
 refine AH 21 Try.func49 rfl rfl rfl fun w D=>?_
 try refine A2 ?_
 refine A1 (AC rfl rfl rfl rfl rfl .nil) ?_
 try refine A2 ?_
 refine AF ?_
 refine BA ?_
 refine IB 1000 rfl rfl rfl rfl (by kernel_rfl) (KQ l.length (by omega) _ (JJ SX l)) ⟨kn rfl,trivial⟩ rfl rfl ?_
 refine BY ?_
 refine AD ?_
 try refine A2 ?_
 refine A1 (A9 rfl rfl rfl rfl rfl (A4 rfl rfl rfl (EM rfl (kn rfl) rfl sle_28) (A9 rfl rfl rfl rfl rfl .nil))) ?_
 try refine A2 ?_
 refine NW (t:=5) rfl (fun v0=>?_)
 refine HP 18 (t:=5) rfl ?_
 refine BB (ι:={ i:Nat // i<=l.length })
  (fun i=>[(1,.part (fP f)),(5,.is v0),(10,.is (.int .i64 (l.length:Int))),(11,.is (.int .i64 (i.1:Int))),(18,F4 1000 v0)])
  (fun _=>[]) (fun i=>[(1000,⟨61,22,l.length,((l.take i.1).map FE++l.drop i.1).flatMap D3,false⟩)]) (fun i=>l.length-i.1) ⟨0,by omega⟩
  (fun K=>AM ⟨s_t,⟨_,rfl,RA _ _⟩,s_t,s_t,s_t,trivial⟩ trivial ⟨rfl,trivial⟩) ?_
 rintro⟨i,hi⟩
 dsimp only at hi ⊢
 try refine A2 ?_
 refine A1 (A4 rfl rfl rfl (A6 rfl (kn rfl) (kn rfl) B7) .nil) ?_
 try refine A2 ?_
 refine AA rfl (fun c=>?_) (fun c=>?_)
 ·have hlt:i<l.length:=by have:=of_decide_eq_true c;omega
  obtain⟨x,hx⟩:∃ x,l[i]?=some x:=⟨_,List.getElem?_eq_getElem hlt⟩
  have hil:((l.take i).map FE).length=i:=by rw[List.length_map,List.length_take];omega
  have hc:=h x (List.mem_of_getElem? hx) 61 22 l.length (((l.take i).map FE).flatMap D3) ((l.drop (i+1)).flatMap D3) v0 rfl
  try refine A2 ?_
  refine A1 (A9 rfl rfl rfl rfl rfl (AC rfl rfl rfl rfl rfl .nil)) ?_
  try refine A2 ?_
  refine AF ?_
  refine BA ?_
  refine BA ?_
  refine BA ?_
  refine O6 (t:=15) (s:=18) rfl rfl ?_
  refine AG (I6 rfl rfl rfl rfl rfl ⟨Int.natCast_nonneg _,Int.ofNat_lt.2 hlt⟩ sle_28 esz_28) ?_
  refine C0 17 rfl (Imp.of_eq (y:=atP 1000 v0 (((l.take i).map FE).flatMap D3).length) (by rw[JF CO,hil];rfl)) ?_
  refine C0 14 rfl (RD f) ?_
  refine CP rfl (JL hx) ?_
  refine J6 (zs:=[_]) rfl rfl rfl rfl hfc (hc) trivial ⟨rfl,trivial⟩ (kn rfl) ⟨(kn rfl),trivial⟩ rfl (YT.tidy) ?_
  rintro _ _ _ ⟨rfl,rfl,rfl⟩
  refine AD ?_
  try refine A2 ?_
  refine CP rfl (ID hx) ?_
  refine A1 (A4 rfl rfl rfl (A6 rfl (kn rfl) (kn rfl) (AS (by first | omega | (dsimp only;omega)))) (A9 rfl rfl rfl rfl rfl .nil)) ?_
  try refine A2 ?_
  refine AR ⟨i+1,by omega⟩ (by dsimp only;omega) (fun K=>AM ⟨s_t,s_t,s_t,s_t,s_t,trivial⟩ trivial ⟨rfl,trivial⟩)
 obtain rfl:i=l.length:=by have:=of_decide_eq_false c;omega
 try refine A2 ?_
 refine NK (t:=5) (s:=18) rfl rfl ?_
 refine A1 (A9 rfl rfl rfl rfl rfl (AC rfl rfl rfl rfl rfl .nil)) ?_
 try refine A2 ?_
 refine BU 4 1000 rfl rfl rfl ?_
 exact A8 rfl rfl (.tmp (kn rfl) (.nil)) (Imp.of_eq (by rw[List.take_length,List.drop_length,List.append_nil,List.length_map];rfl)) rfl
set_option maxHeartbeats 1000000 in
theorem M9(f:FuncId)(hfc:B8 Try.prog f=true)(l:List (Stp))(hl:l.length<=80)(h:∀ x∈l,HI f B5 BQ x):EF Try.prog [] 26 [.one (.row 30 l.length (l.flatMap B5)),fP f] (.part (.one (.row 30 (l.map BQ).length ((l.map BQ).flatMap B5)))):=by
 refine AH 21 Try.func26 rfl rfl rfl fun w D=>?_
 try refine A2 ?_
 refine A1 (AC rfl rfl rfl rfl rfl .nil) ?_
 try refine A2 ?_
 refine AF ?_
 refine BA ?_
 refine IB 1000 rfl rfl rfl rfl (by kernel_rfl) (M0 l.length (by omega) _ (JJ S8 l)) ⟨kn rfl,trivial⟩ rfl rfl ?_
 refine BY ?_
 refine AD ?_
 try refine A2 ?_
 refine A1 (A9 rfl rfl rfl rfl rfl (A4 rfl rfl rfl (EM rfl (kn rfl) rfl sle_29) (A9 rfl rfl rfl rfl rfl .nil))) ?_
 try refine A2 ?_
 refine NW (t:=5) rfl (fun v0=>?_)
 refine HP 18 (t:=5) rfl ?_
 refine BB (ι:={ i:Nat // i<=l.length })
  (fun i=>[(1,.part (fP f)),(5,.is v0),(10,.is (.int .i64 (l.length:Int))),(11,.is (.int .i64 (i.1:Int))),(18,F4 1000 v0)])
  (fun _=>[]) (fun i=>[(1000,⟨76,30,l.length,((l.take i.1).map BQ++l.drop i.1).flatMap B5,false⟩)]) (fun i=>l.length-i.1) ⟨0,by omega⟩
  (fun K=>AM ⟨s_t,⟨_,rfl,RA _ _⟩,s_t,s_t,s_t,trivial⟩ trivial ⟨rfl,trivial⟩) ?_
 rintro⟨i,hi⟩
 dsimp only at hi ⊢
 try refine A2 ?_
 refine A1 (A4 rfl rfl rfl (A6 rfl (kn rfl) (kn rfl) B7) .nil) ?_
 try refine A2 ?_
 refine AA rfl (fun c=>?_) (fun c=>?_)
 ·have hlt:i<l.length:=by have:=of_decide_eq_true c;omega
  obtain⟨x,hx⟩:∃ x,l[i]?=some x:=⟨_,List.getElem?_eq_getElem hlt⟩
  have hil:((l.take i).map BQ).length=i:=by rw[List.length_map,List.length_take];omega
  have hc:=h x (List.mem_of_getElem? hx) 76 30 l.length (((l.take i).map BQ).flatMap B5) ((l.drop (i+1)).flatMap B5) v0 rfl
  try refine A2 ?_
  refine A1 (A9 rfl rfl rfl rfl rfl (AC rfl rfl rfl rfl rfl .nil)) ?_
  try refine A2 ?_
  refine AF ?_
  refine BA ?_
  refine BA ?_
  refine BA ?_
  refine O6 (t:=15) (s:=18) rfl rfl ?_
  refine AG (I6 rfl rfl rfl rfl rfl ⟨Int.natCast_nonneg _,Int.ofNat_lt.2 hlt⟩ sle_29 esz_29) ?_
  refine C0 17 rfl (Imp.of_eq (y:=atP 1000 v0 (((l.take i).map BQ).flatMap B5).length) (by rw[JF BK,hil];rfl)) ?_
  refine C0 14 rfl (RD f) ?_
  refine CP rfl (JL hx) ?_
  refine J6 (zs:=[_]) rfl rfl rfl rfl hfc (hc) trivial ⟨rfl,trivial⟩ (kn rfl) ⟨(kn rfl),trivial⟩ rfl (YT.tidy) ?_
  rintro _ _ _ ⟨rfl,rfl,rfl⟩
  refine AD ?_
  try refine A2 ?_
  refine CP rfl (ID hx) ?_
  refine A1 (A4 rfl rfl rfl (A6 rfl (kn rfl) (kn rfl) (AS (by first | omega | (dsimp only;omega)))) (A9 rfl rfl rfl rfl rfl .nil)) ?_
  try refine A2 ?_
  refine AR ⟨i+1,by omega⟩ (by dsimp only;omega) (fun K=>AM ⟨s_t,s_t,s_t,s_t,s_t,trivial⟩ trivial ⟨rfl,trivial⟩)
 obtain rfl:i=l.length:=by have:=of_decide_eq_false c;omega
 try refine A2 ?_
 refine NK (t:=5) (s:=18) rfl rfl ?_
 refine A1 (A9 rfl rfl rfl rfl rfl (AC rfl rfl rfl rfl rfl .nil)) ?_
 try refine A2 ?_
 refine BU 4 1000 rfl rfl rfl ?_
 exact A8 rfl rfl (.tmp (kn rfl) (.nil)) (Imp.of_eq (by rw[List.take_length,List.drop_length,List.append_nil,List.length_map];rfl)) rfl
set_option maxHeartbeats 1000000 in
theorem NV(f:FuncId)(hfc:B8 Try.prog f=true)(l:List (Vl×Ed))(hl:l.length<=80)(h:∀ x∈l,HI f D4 G9 x):EF Try.prog [] 51 [.one (.row 28 l.length (l.flatMap D4)),fP f] (.part (.one (.row 28 (l.map G9).length ((l.map G9).flatMap D4)))):=by
 refine AH 21 Try.func51 rfl rfl rfl fun w D=>?_
 try refine A2 ?_
 refine A1 (AC rfl rfl rfl rfl rfl .nil) ?_
 try refine A2 ?_
 refine AF ?_
 refine BA ?_
 refine IB 1000 rfl rfl rfl rfl (by kernel_rfl) (NI l.length (by omega) _ (JJ SF l)) ⟨kn rfl,trivial⟩ rfl rfl ?_
 refine BY ?_
 refine AD ?_
 try refine A2 ?_
 refine A1 (A9 rfl rfl rfl rfl rfl (A4 rfl rfl rfl (EM rfl (kn rfl) rfl sle_30) (A9 rfl rfl rfl rfl rfl .nil))) ?_
 try refine A2 ?_
 refine NW (t:=5) rfl (fun v0=>?_)
 refine HP 18 (t:=5) rfl ?_
 refine BB (ι:={ i:Nat // i<=l.length })
  (fun i=>[(1,.part (fP f)),(5,.is v0),(10,.is (.int .i64 (l.length:Int))),(11,.is (.int .i64 (i.1:Int))),(18,F4 1000 v0)])
  (fun _=>[]) (fun i=>[(1000,⟨65,28,l.length,((l.take i.1).map G9++l.drop i.1).flatMap D4,false⟩)]) (fun i=>l.length-i.1) ⟨0,by omega⟩
  (fun K=>AM ⟨s_t,⟨_,rfl,RA _ _⟩,s_t,s_t,s_t,trivial⟩ trivial ⟨rfl,trivial⟩) ?_
 rintro⟨i,hi⟩
 dsimp only at hi ⊢
 try refine A2 ?_
 refine A1 (A4 rfl rfl rfl (A6 rfl (kn rfl) (kn rfl) B7) .nil) ?_
 try refine A2 ?_
 refine AA rfl (fun c=>?_) (fun c=>?_)
 ·have hlt:i<l.length:=by have:=of_decide_eq_true c;omega
  obtain⟨x,hx⟩:∃ x,l[i]?=some x:=⟨_,List.getElem?_eq_getElem hlt⟩
  have hil:((l.take i).map G9).length=i:=by rw[List.length_map,List.length_take];omega
  have hc:=h x (List.mem_of_getElem? hx) 65 28 l.length (((l.take i).map G9).flatMap D4) ((l.drop (i+1)).flatMap D4) v0 rfl
  try refine A2 ?_
  refine A1 (A9 rfl rfl rfl rfl rfl (AC rfl rfl rfl rfl rfl .nil)) ?_
  try refine A2 ?_
  refine AF ?_
  refine BA ?_
  refine BA ?_
  refine BA ?_
  refine O6 (t:=15) (s:=18) rfl rfl ?_
  refine AG (I6 rfl rfl rfl rfl rfl ⟨Int.natCast_nonneg _,Int.ofNat_lt.2 hlt⟩ sle_30 esz_30) ?_
  refine C0 17 rfl (Imp.of_eq (y:=atP 1000 v0 (((l.take i).map G9).flatMap D4).length) (by rw[JF CM,hil];rfl)) ?_
  refine C0 14 rfl (RD f) ?_
  refine CP rfl (JL hx) ?_
  refine J6 (zs:=[_]) rfl rfl rfl rfl hfc (hc) trivial ⟨rfl,trivial⟩ (kn rfl) ⟨(kn rfl),trivial⟩ rfl (YT.tidy) ?_
  rintro _ _ _ ⟨rfl,rfl,rfl⟩
  refine AD ?_
  try refine A2 ?_
  refine CP rfl (ID hx) ?_
  refine A1 (A4 rfl rfl rfl (A6 rfl (kn rfl) (kn rfl) (AS (by first | omega | (dsimp only;omega)))) (A9 rfl rfl rfl rfl rfl .nil)) ?_
  try refine A2 ?_
  refine AR ⟨i+1,by omega⟩ (by dsimp only;omega) (fun K=>AM ⟨s_t,s_t,s_t,s_t,s_t,trivial⟩ trivial ⟨rfl,trivial⟩)
 obtain rfl:i=l.length:=by have:=of_decide_eq_false c;omega
 try refine A2 ?_
 refine NK (t:=5) (s:=18) rfl rfl ?_
 refine A1 (A9 rfl rfl rfl rfl rfl (AC rfl rfl rfl rfl rfl .nil)) ?_
 try refine A2 ?_
 refine BU 4 1000 rfl rfl rfl ?_
 exact A8 rfl rfl (.tmp (kn rfl) (.nil)) (Imp.of_eq (by rw[List.take_length,List.drop_length,List.append_nil,List.length_map];rfl)) rfl
theorem L4{α:Type}{f:FuncId}{D D':α->List Dat}{g:α->α}{x:α}(hD:∀ a,D' a=D a)(h:HI f D g x):HI f D' g x:=by
 unfold HI at *
 rw[hD,hD]
 exact h
theorem MP{l:List Stp}(hr:BF C2 CH none l=true):BF (fun _=>true) PU none (l.map BQ)=true:=by
 have:=E8 BQ (fun _=>true) PU none l
 rw[Option.map_none]at this
 rw[this]
 refine J3 (fun _ _ _=>rfl) (fun p x h=>?_) hr
 unfold CH at h
 unfold PU
 rw[DR,DR]
 by_cases h1:p.1.1=1
 ·rw[if_pos h1]at h
  simp only[Bool.not_eq_true',decide_eq_false_iff_not]at h
  have:D2 x.1.1≠1:=by unfold D2;repeat' split;all_goals omega
  simp[this]
 ·have:D2 p.1.1≠1:=by unfold D2;repeat' split;all_goals omega
  simp[this]
theorem MK(l:List Stp)(hl:l.length<=80)(hr:BF C2 CH none l=true)(hk:∀ s∈l,JY s.2)(hi:∀ s∈l,B3 (BT s.2)=true):EF Try.prog [] 12 [.one (.row 30 l.length (l.flatMap B5))] (.part (.one (.row 30 (QY l).length ((QY l).flatMap B5)))):=by
 have ht:=VZ (l.map BQ) (by rw[List.length_map];exact hl) (fun s hs=>by
  obtain⟨u,hu,rfl⟩:=List.mem_map.1 hs
  exact HZ (DO hr u hu) (hi u hu)) (MP hr)
 refine AH 6 Try.func12 rfl rfl rfl fun w D=>?_
 try refine A2 ?_
 refine A1 (AC rfl rfl rfl rfl rfl .nil) ?_
 try refine A2 ?_
 refine A1 (A9 rfl rfl rfl rfl rfl (A4 rfl rfl rfl (AE rfl (by kernel_rfl) (M9 27 (by kernel_rfl) l hl (fun s hs=>L4 BJ (PN s (DO hr s hs) (hk s hs)))) ⟨(kn rfl),⟨(kn rfl),trivial⟩⟩) (A4 rfl rfl rfl (AE rfl (by kernel_rfl) (ht) ⟨(kn rfl),trivial⟩) (AC rfl rfl rfl rfl rfl .nil)))) ?_
 try refine A2 ?_
 exact A8 rfl rfl (.tmp (kn rfl) (.nil)) (Imp.of_eq rfl) rfl
end Go.Proofs.Ytecfdcdkkgmkpaa
