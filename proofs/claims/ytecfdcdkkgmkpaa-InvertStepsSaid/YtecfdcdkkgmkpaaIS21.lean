/- Part 21. Conditions: as each theorem says. -/
import Derived.Test.YtecfdcdkkgmkpaaIS20
import Derived.Test.YtecfdcdkkgmkpaaProg
set_option maxRecDepth 100000
namespace Go.Proofs.Ytecfdcdkkgmkpaa
open Go.RowKit
theorem ED{e:Ed}(h:AU e=true):(e.kind=1\/(e.old=CT/\e.new=CT))/\(e.kind=2\/(e.fields=[]/\e.rests=false/\e.ro=[]/\e.rn=[]))/\(e.kind=3\/e.steps=[])/\(e.kind=4\/e.keys=[]):=by
 obtain⟨h1,h2,h3,h4⟩:=(GG e).1 (FB h)
 simp only[List.length_eq_zero_iff]at h2 h3 h4
 exact⟨h1.imp id fun h=>⟨D2 h.1,D2 h.2⟩,h2,h3,h4⟩
theorem UQ{e:Ed}(h:AU e=true)(k:e.kind=1):BG e=.mk e.kind e.new e.old e.fields e.rests e.ro e.rn e.steps e.keys:=by
 obtain⟨_,h2,h3,h4⟩:=ED h
 obtain⟨a,b,c,d⟩:=h2.resolve_left (by omega)
 rw[C7,a,c,d,h3.resolve_left (by omega),h4.resolve_left (by omega)]
 rfl
theorem UO{e:Ed}(h:AU e=true)(k:e.kind=2):BG e=.mk e.kind e.old e.new (e.fields.map FA) e.rests e.rn e.ro e.steps e.keys:=by
 obtain⟨h1,_,h3,h4⟩:=ED h
 obtain⟨a,b⟩:=h1.resolve_left (by omega)
 rw[C7,a,b,h3.resolve_left (by omega),h4.resolve_left (by omega)]
 rfl
theorem SU{e:Ed}(h:AU e=true)(k:e.kind=3):BG e=.mk e.kind e.old e.new e.fields e.rests e.ro e.rn (ID e.steps) e.keys:=by
 obtain⟨h1,h2,_,h4⟩:=ED h
 obtain⟨a,b⟩:=h1.resolve_left (by omega)
 obtain⟨c,d,f,g⟩:=h2.resolve_left (by omega)
 rw[C7,a,b,c,f,g,h4.resolve_left (by omega)]
 rfl
theorem UG{e:Ed}(h:AU e=true)(k:e.kind=4):BG e=.mk e.kind e.old e.new e.fields e.rests e.ro e.rn e.steps (e.keys.map GW):=by
 obtain⟨h1,h2,h3,_⟩:=ED h
 obtain⟨a,b⟩:=h1.resolve_left (by omega)
 obtain⟨c,d,f,g⟩:=h2.resolve_left (by omega)
 rw[C7,a,b,c,f,g,h3.resolve_left (by omega)]
 rfl
theorem U7{e:Ed}(h:AU e=true)(n1:e.kind≠1)(n2:e.kind≠2)(n3:e.kind≠3)(n4:e.kind≠4):BG e=e:=by
 have k:¬ (e.kind<0\/4<e.kind):=fun h'=>by
  rw[PC h']at h
  cases h
 rw[H0 h (by omega)]
 exact LF
abbrev YT(ty k n:Nat)(v0:Value)(ds:List Dat)(y:IV)(B1:BL)(R1:RL):Prop:=y=EH 1000 v0/\B1=[]/\R1=[(1000,⟨ty,k,n,ds,false⟩)]
theorem YT.tidy{ty k n ty' k' n':Nat}{v0:Value}{ds ds':List Dat}(y:IV)(B1:BL)(R1:RL)(h:YT ty k n v0 ds y B1 R1):PV [] [(1000,⟨ty',k',n',ds',false⟩)] y B1 R1:=by
 obtain⟨rfl,rfl,rfl⟩:=h
 exact⟨rfl,rfl,rfl,rfl⟩
def GN{α:Type}(f:FuncId)(form:α->List Dat)(g:α->α)(x:α):Prop:=∀ (ty k n:Nat) (pre post:List Dat) (v0:Value),Nat.blt ty 1000000=true->EG Try.prog [] f [atP 1000 v0 pre.length] [] [(1000,⟨ty,k,n,pre++(form x++post),false⟩)] (YT ty k n v0 (pre++(form (g x)++post)))
def IX(e:Ed):Prop:=GN 24 ed BG e
theorem LV(x:Int×Ed)(h:IX x.2):GN 50 efd FA x:=by
 intro ty k n pre post v0 hty
 have hc:=h ty k n (pre++[.cell (.int .i64 x.1)]) post v0 hty
 refine EE 6 Try.func50 rfl rfl rfl fun w D bor mb=>?_
 try refine A1 ?_
 refine D5 (ds':=(pre++[.cell (.int .i64 x.1)])++(ed x.2++post)) rfl (by simp[efd]) ?_
 refine AG ?_
 refine BE ?_
 refine AK (B5 (NQ _ _) rfl (kn rfl)) ?_
 refine AK (II rfl rfl off_61_1) ?_
 refine BK 4 rfl (Imp.of_eq (y:=atP 1000 v0 (pre++[Dat.cell (.int .i64 x.1)]).length) (by rw[List.length_append];rfl)) ?_
 refine HT rfl rfl rfl rfl (by kernel_rfl) (hc) trivial ⟨rfl,trivial⟩ ⟨(kn rfl),trivial⟩ (YT.tidy) ?_
 rintro _ _ _ ⟨rfl,rfl,rfl⟩
 refine AD ?_
 try refine A1 ?_
 exact C2 (t:=5) [] [(1000,⟨ty,k,n,pre++(efd (FA x)++post),false⟩)] rfl rfl trivial ⟨EU rfl rfl (by simp[efd,FA]),trivial⟩ ⟨rfl,rfl,rfl⟩
theorem PG(x:Vl×Ed)(h:IX x.2):GN 52 ekd GW x:=by
 intro ty k n pre post v0 hty
 have hc:=h ty k n (pre++vd x.1) post v0 hty
 refine EE 6 Try.func52 rfl rfl rfl fun w D bor mb=>?_
 try refine A1 ?_
 refine D5 (ds':=(pre++vd x.1)++(ed x.2++post)) rfl (by simp[ekd]) ?_
 refine AG ?_
 refine BE ?_
 refine AK (B5 (NQ _ _) rfl (kn rfl)) ?_
 refine AK (II rfl rfl off_65_1) ?_
 refine BK 4 rfl (Imp.of_eq (y:=atP 1000 v0 (pre++vd x.1).length) (by rw[List.length_append];rfl)) ?_
 refine HT rfl rfl rfl rfl (by kernel_rfl) (hc) trivial ⟨rfl,trivial⟩ ⟨(kn rfl),trivial⟩ (YT.tidy) ?_
 rintro _ _ _ ⟨rfl,rfl,rfl⟩
 refine AD ?_
 try refine A1 ?_
 exact C2 (t:=5) [] [(1000,⟨ty,k,n,pre++(ekd (GW x)++post),false⟩)] rfl rfl trivial ⟨EU rfl rfl (by simp[ekd,GW]),trivial⟩ ⟨rfl,rfl,rfl⟩
theorem FX{s:Stp}(h:s.2=EC):BF s=((CG s.1.1,s.1.2.1,s.1.2.2),s.2):=by
 unfold BF
 rw[h,LF]
set_option maxHeartbeats 1000000 in
theorem NH(s:Stp)(hs:BS s=true)(h:IX s.2):GN 27 esd BF s:=by
 intro ty k n pre post v0 hty
 have hcs:=(DC hs).2
 have hc:=h ty k n (pre++(.cell (.int .i64 s.1.1)::.cell (.int .i64 s.1.2.1)::vd s.1.2.2)) post v0 hty
 refine EE 22 Try.func27 rfl rfl rfl fun w D bor mb=>?_
 try refine A1 ?_
 refine OC 200 (t:=0) rfl ?_
 refine A0 (A8 rfl rfl rfl rfl rfl (A4 rfl rfl rfl (B5 (BO _) rfl (kn rfl)) (A4 rfl rfl rfl (AR rfl (kn rfl) off_76_0) (A4 rfl rfl rfl (C3 rfl (kn rfl) rfl (GR (d:=.cell (.int .i64 s.1.1)) rfl) one_3 hty) .nil)))) ?_
 try refine A1 ?_
 refine A0 (A4 rfl rfl rfl (A6 rfl (kn rfl) (kn rfl) AL) (AC rfl rfl rfl rfl rfl .nil)) ?_
 try refine A1 ?_
 refine AB rfl (fun c2=>?_) (fun c2=>?_)
 ·have kk:=of_decide_eq_true c2
  have hz:s.2=EC:=by
   rcases hcs with⟨a,_⟩ | ⟨_,_,_,b⟩ | ⟨a,_⟩
   ·omega
   ·exact b
   ·omega
  try refine A1 ?_
  refine AG ?_
  refine BE ?_
  refine AK (B5 (BO _) rfl (kn rfl)) ?_
  refine AK (AR rfl (kn rfl) off_76_0) ?_
  refine C4 rfl rfl rfl (kn rfl) rfl (kn rfl) rfl (H5 rfl) sz_3 (F3 rfl) ?_ hty
  refine AD ?_
  try refine A1 ?_
  exact C2 (t:=200) [] [(1000,⟨ty,k,n,pre++(esd (BF s)++post),false⟩)] rfl rfl trivial ⟨EU rfl rfl (by rw[FX hz,kk];rfl),trivial⟩ ⟨rfl,rfl,rfl⟩
 have n2:=of_decide_eq_false c2
 try refine A1 ?_
 refine A0 (A4 rfl rfl rfl (A6 rfl (kn rfl) (kn rfl) AL) (AC rfl rfl rfl rfl rfl .nil)) ?_
 try refine A1 ?_
 refine AB rfl (fun c3=>?_) (fun c3=>?_)
 ·have kk:=of_decide_eq_true c3
  have hz:s.2=EC:=by
   rcases hcs with⟨a,_⟩ | ⟨_,_,_,b⟩ | ⟨a,_⟩
   ·omega
   ·exact b
   ·omega
  try refine A1 ?_
  refine AG ?_
  refine BE ?_
  refine AK (B5 (BO _) rfl (kn rfl)) ?_
  refine AK (AR rfl (kn rfl) off_76_0) ?_
  refine C4 rfl rfl rfl (kn rfl) rfl (kn rfl) rfl (H5 rfl) sz_3 (F3 rfl) ?_ hty
  refine AD ?_
  try refine A1 ?_
  exact C2 (t:=200) [] [(1000,⟨ty,k,n,pre++(esd (BF s)++post),false⟩)] rfl rfl trivial ⟨EU rfl rfl (by rw[FX hz,kk];rfl),trivial⟩ ⟨rfl,rfl,rfl⟩
 have n3:=of_decide_eq_false c3
 try refine A1 ?_
 refine A0 (A4 rfl rfl rfl (A6 rfl (kn rfl) (kn rfl) AL) (AC rfl rfl rfl rfl rfl .nil)) ?_
 try refine A1 ?_
 refine AB rfl (fun c4=>?_) (fun c4=>?_)
 ·have k4:=of_decide_eq_true c4
  try refine A1 ?_
  refine D5 (ds':=(pre++(.cell (.int .i64 s.1.1)::.cell (.int .i64 s.1.2.1)::vd s.1.2.2))++(ed s.2++post)) rfl (by simp[esd]) ?_
  refine AG ?_
  refine BE ?_
  refine AK (B5 (BO _) rfl (kn rfl)) ?_
  refine AK (AR rfl (kn rfl) off_76_3) ?_
  refine SN (t:=20) (s:=200) rfl rfl ?_
  refine BK 20 rfl (Imp.of_eq (y:=atP 1000 v0 (pre++(Dat.cell (.int .i64 s.1.1)::.cell (.int .i64 s.1.2.1)::vd s.1.2.2)).length) (by rw[List.length_append];rfl)) ?_
  refine HT rfl rfl rfl rfl (by kernel_rfl) (hc) trivial ⟨rfl,trivial⟩ ⟨(kn rfl),trivial⟩ (YT.tidy) ?_
  rintro _ _ _ ⟨rfl,rfl,rfl⟩
  refine AD ?_
  try refine A1 ?_
  exact C2 (t:=21) [] [(1000,⟨ty,k,n,pre++(esd (BF s)++post),false⟩)] rfl rfl trivial ⟨EU rfl rfl (by rw[show BF s=((s.1.1,s.1.2.1,s.1.2.2),BG s.2) by unfold BF;rw[EB n2 n3]];simp[esd]),trivial⟩ ⟨rfl,rfl,rfl⟩
 have n4:=of_decide_eq_false c4
 have hz:s.2=EC:=by
  rcases hcs with⟨_,_,_,_,b⟩ | ⟨_,_,_,b⟩ | ⟨a,_⟩
  ·exact b
  ·exact b
  ·omega
 try refine A1 ?_
 exact C2 (t:=200) [] [(1000,⟨ty,k,n,pre++(esd (BF s)++post),false⟩)] rfl rfl trivial ⟨EU rfl rfl (by rw[FX hz,EB n2 n3]),trivial⟩ ⟨rfl,rfl,rfl⟩
theorem I1{α:Type}{D:α->List Dat}{g:α->α}{l:List α}{k:Nat}{x:α}(hx:l[k]?=some x):((l.take k).map g++l.drop k).flatMap D=((l.take k).map g).flatMap D++(D x++(l.drop (k+1)).flatMap D):=by
 rw[BQ hx,List.flatMap_append,List.flatMap_cons]
theorem GP{α:Type}{D:α->List Dat}{g:α->α}{l:List α}{k:Nat}{x:α}(hx:l[k]?=some x):((l.take k).map g).flatMap D++(D (g x)++(l.drop (k+1)).flatMap D)=((l.take (k+1)).map g++l.drop (k+1)).flatMap D:=by
 rw[List.take_add_one,hx]
 simp
theorem IE{α:Type}{D:α->List Dat}{w:Nat}(h:∀ a,(D a).length=w)(l:List α):(l.flatMap D).length=l.length*w:=by
 induction l with
 | nil=>simp
 | cons s p ih=>rw[List.flatMap_cons,List.length_append,ih,h,List.length_cons,Nat.add_mul];omega
theorem I2{α:Type}{D:α->List Dat}(h:∀ a,(D a).all Dat.isOne=true)(l:List α):(l.flatMap D).all Dat.isOne=true:=by
 rw[List.all_eq_true]
 intro d hd
 obtain⟨s,_,hs⟩:=List.mem_flatMap.1 hd
 exact List.all_eq_true.1 (h s) d hs
theorem OY(f:FuncId):Imp (.part (fP f)) (.clo (.func f) [] []):=fun _ _ _ _ _ h=>Lies.cell_eq h
theorem RA(p:Int×Ed):(DM p).all Dat.isOne=true:=by rw[DH];rfl
theorem QI(p:Stp):(BC p).all Dat.isOne=true:=by rw[C0];rfl
theorem QX(p:Vl×Ed):(DR p).all Dat.isOne=true:=by rw[DP];rfl
set_option maxHeartbeats 1000000 in
theorem JF(f:FuncId)(hfc:AZ Try.prog f=true)(l:List (Int×Ed))(hl:l.length<=80)(h:∀ x∈l,GN f DM FA x):EF Try.prog [] 49 [.one (.row 22 l.length (l.flatMap DM)),fP f] (.part (.one (.row 22 (l.map FA).length ((l.map FA).flatMap DM)))):=by
 refine AF 21 Try.func49 rfl rfl rfl fun w D=>?_
 try refine A1 ?_
 refine A0 (AC rfl rfl rfl rfl rfl .nil) ?_
 try refine A1 ?_
 refine AG ?_
 refine BE ?_
 refine H7 1000 rfl rfl rfl rfl (by kernel_rfl) (KF l.length (by omega) _ (I2 RA l)) ⟨kn rfl,trivial⟩ rfl rfl ?_
 refine BW ?_
 refine AD ?_
 try refine A1 ?_
 refine A0 (A8 rfl rfl rfl rfl rfl (A4 rfl rfl rfl (GC rfl (kn rfl) rfl sle_28) (A8 rfl rfl rfl rfl rfl .nil))) ?_
 try refine A1 ?_
 refine MF (t:=5) rfl (fun v0=>?_)
 refine HB 18 (t:=5) rfl ?_
 refine BN (ι:={ i:Nat // i<=l.length })
  (fun i=>[(1,.part (fP f)),(5,.is v0),(10,.is (.int .i64 (l.length:Int))),(11,.is (.int .i64 (i.1:Int))),(18,EH 1000 v0)])
  (fun _=>[]) (fun i=>[(1000,⟨61,22,l.length,((l.take i.1).map FA++l.drop i.1).flatMap DM,false⟩)]) (fun i=>l.length-i.1) ⟨0,by omega⟩
  (fun K=>AM ⟨s_t,⟨_,rfl,PK _ _⟩,s_t,s_t,s_t,trivial⟩ trivial ⟨rfl,trivial⟩) ?_
 rintro⟨i,hi⟩
 dsimp only at hi ⊢
 try refine A1 ?_
 refine A0 (A4 rfl rfl rfl (A6 rfl (kn rfl) (kn rfl) BM) .nil) ?_
 try refine A1 ?_
 refine AB rfl (fun c=>?_) (fun c=>?_)
 ·have hlt:i<l.length:=by have:=of_decide_eq_true c;omega
  obtain⟨x,hx⟩:∃ x,l[i]?=some x:=⟨_,List.getElem?_eq_getElem hlt⟩
  have hil:((l.take i).map FA).length=i:=by rw[List.length_map,List.length_take];omega
  have hc:=h x (List.mem_of_getElem? hx) 61 22 l.length (((l.take i).map FA).flatMap DM) ((l.drop (i+1)).flatMap DM) v0 rfl
  try refine A1 ?_
  refine A0 (A8 rfl rfl rfl rfl rfl (AC rfl rfl rfl rfl rfl .nil)) ?_
  try refine A1 ?_
  refine AG ?_
  refine BE ?_
  refine BE ?_
  refine BE ?_
  refine MG (t:=15) (s:=18) rfl rfl ?_
  refine AK (GQ rfl rfl rfl rfl rfl ⟨Int.natCast_nonneg _,Int.ofNat_lt.2 hlt⟩ sle_28 esz_28) ?_
  refine BK 17 rfl (Imp.of_eq (y:=atP 1000 v0 (((l.take i).map FA).flatMap DM).length) (by rw[IE E4,hil];rfl)) ?_
  refine BK 14 rfl (OY f) ?_
  refine D5 rfl (I1 hx) ?_
  refine HU (zs:=[_]) rfl rfl rfl rfl hfc (hc) trivial ⟨rfl,trivial⟩ (kn rfl) ⟨(kn rfl),trivial⟩ rfl (YT.tidy) ?_
  rintro _ _ _ ⟨rfl,rfl,rfl⟩
  refine AD ?_
  try refine A1 ?_
  refine D5 rfl (GP hx) ?_
  refine A0 (A4 rfl rfl rfl (A6 rfl (kn rfl) (kn rfl) (AW (by first | omega | (dsimp only;omega)))) (A8 rfl rfl rfl rfl rfl .nil)) ?_
  try refine A1 ?_
  refine AV ⟨i+1,by omega⟩ (by dsimp only;omega) (fun K=>AM ⟨s_t,s_t,s_t,s_t,s_t,trivial⟩ trivial ⟨rfl,trivial⟩)
 obtain rfl:i=l.length:=by have:=of_decide_eq_false c;omega
 try refine A1 ?_
 refine MM (t:=5) (s:=18) rfl rfl ?_
 refine A0 (A8 rfl rfl rfl rfl rfl (AC rfl rfl rfl rfl rfl .nil)) ?_
 try refine A1 ?_
 refine CU 4 1000 rfl rfl rfl ?_
 exact A7 rfl rfl (.tmp (kn rfl) (.nil)) (Imp.of_eq (by rw[List.take_length,List.drop_length,List.append_nil,List.length_map];rfl)) rfl
set_option maxHeartbeats 1000000 in
theorem KX(f:FuncId)(hfc:AZ Try.prog f=true)(l:List (Stp))(hl:l.length<=80)(h:∀ x∈l,GN f BC BF x):EF Try.prog [] 26 [.one (.row 30 l.length (l.flatMap BC)),fP f] (.part (.one (.row 30 (l.map BF).length ((l.map BF).flatMap BC)))):=by
 refine AF 21 Try.func26 rfl rfl rfl fun w D=>?_
 try refine A1 ?_
 refine A0 (AC rfl rfl rfl rfl rfl .nil) ?_
 try refine A1 ?_
 refine AG ?_
 refine BE ?_
 refine H7 1000 rfl rfl rfl rfl (by kernel_rfl) (KW l.length (by omega) _ (I2 QI l)) ⟨kn rfl,trivial⟩ rfl rfl ?_
 refine BW ?_
 refine AD ?_
 try refine A1 ?_
 refine A0 (A8 rfl rfl rfl rfl rfl (A4 rfl rfl rfl (GC rfl (kn rfl) rfl sle_29) (A8 rfl rfl rfl rfl rfl .nil))) ?_
 try refine A1 ?_
 refine MF (t:=5) rfl (fun v0=>?_)
 refine HB 18 (t:=5) rfl ?_
 refine BN (ι:={ i:Nat // i<=l.length })
  (fun i=>[(1,.part (fP f)),(5,.is v0),(10,.is (.int .i64 (l.length:Int))),(11,.is (.int .i64 (i.1:Int))),(18,EH 1000 v0)])
  (fun _=>[]) (fun i=>[(1000,⟨76,30,l.length,((l.take i.1).map BF++l.drop i.1).flatMap BC,false⟩)]) (fun i=>l.length-i.1) ⟨0,by omega⟩
  (fun K=>AM ⟨s_t,⟨_,rfl,PK _ _⟩,s_t,s_t,s_t,trivial⟩ trivial ⟨rfl,trivial⟩) ?_
 rintro⟨i,hi⟩
 dsimp only at hi ⊢
 try refine A1 ?_
 refine A0 (A4 rfl rfl rfl (A6 rfl (kn rfl) (kn rfl) BM) .nil) ?_
 try refine A1 ?_
 refine AB rfl (fun c=>?_) (fun c=>?_)
 ·have hlt:i<l.length:=by have:=of_decide_eq_true c;omega
  obtain⟨x,hx⟩:∃ x,l[i]?=some x:=⟨_,List.getElem?_eq_getElem hlt⟩
  have hil:((l.take i).map BF).length=i:=by rw[List.length_map,List.length_take];omega
  have hc:=h x (List.mem_of_getElem? hx) 76 30 l.length (((l.take i).map BF).flatMap BC) ((l.drop (i+1)).flatMap BC) v0 rfl
  try refine A1 ?_
  refine A0 (A8 rfl rfl rfl rfl rfl (AC rfl rfl rfl rfl rfl .nil)) ?_
  try refine A1 ?_
  refine AG ?_
  refine BE ?_
  refine BE ?_
  refine BE ?_
  refine MG (t:=15) (s:=18) rfl rfl ?_
  refine AK (GQ rfl rfl rfl rfl rfl ⟨Int.natCast_nonneg _,Int.ofNat_lt.2 hlt⟩ sle_29 esz_29) ?_
  refine BK 17 rfl (Imp.of_eq (y:=atP 1000 v0 (((l.take i).map BF).flatMap BC).length) (by rw[IE CA,hil];rfl)) ?_
  refine BK 14 rfl (OY f) ?_
  refine D5 rfl (I1 hx) ?_
  refine HU (zs:=[_]) rfl rfl rfl rfl hfc (hc) trivial ⟨rfl,trivial⟩ (kn rfl) ⟨(kn rfl),trivial⟩ rfl (YT.tidy) ?_
  rintro _ _ _ ⟨rfl,rfl,rfl⟩
  refine AD ?_
  try refine A1 ?_
  refine D5 rfl (GP hx) ?_
  refine A0 (A4 rfl rfl rfl (A6 rfl (kn rfl) (kn rfl) (AW (by first | omega | (dsimp only;omega)))) (A8 rfl rfl rfl rfl rfl .nil)) ?_
  try refine A1 ?_
  refine AV ⟨i+1,by omega⟩ (by dsimp only;omega) (fun K=>AM ⟨s_t,s_t,s_t,s_t,s_t,trivial⟩ trivial ⟨rfl,trivial⟩)
 obtain rfl:i=l.length:=by have:=of_decide_eq_false c;omega
 try refine A1 ?_
 refine MM (t:=5) (s:=18) rfl rfl ?_
 refine A0 (A8 rfl rfl rfl rfl rfl (AC rfl rfl rfl rfl rfl .nil)) ?_
 try refine A1 ?_
 refine CU 4 1000 rfl rfl rfl ?_
 exact A7 rfl rfl (.tmp (kn rfl) (.nil)) (Imp.of_eq (by rw[List.take_length,List.drop_length,List.append_nil,List.length_map];rfl)) rfl
set_option maxHeartbeats 1000000 in
theorem MI(f:FuncId)(hfc:AZ Try.prog f=true)(l:List (Vl×Ed))(hl:l.length<=80)(h:∀ x∈l,GN f DR GW x):EF Try.prog [] 51 [.one (.row 28 l.length (l.flatMap DR)),fP f] (.part (.one (.row 28 (l.map GW).length ((l.map GW).flatMap DR)))):=by
 refine AF 21 Try.func51 rfl rfl rfl fun w D=>?_
 try refine A1 ?_
 refine A0 (AC rfl rfl rfl rfl rfl .nil) ?_
 try refine A1 ?_
 refine AG ?_
 refine BE ?_
 refine H7 1000 rfl rfl rfl rfl (by kernel_rfl) (MD l.length (by omega) _ (I2 QX l)) ⟨kn rfl,trivial⟩ rfl rfl ?_
 refine BW ?_
 refine AD ?_
 try refine A1 ?_
 refine A0 (A8 rfl rfl rfl rfl rfl (A4 rfl rfl rfl (GC rfl (kn rfl) rfl sle_30) (A8 rfl rfl rfl rfl rfl .nil))) ?_
 try refine A1 ?_
 refine MF (t:=5) rfl (fun v0=>?_)
 refine HB 18 (t:=5) rfl ?_
 refine BN (ι:={ i:Nat // i<=l.length })
  (fun i=>[(1,.part (fP f)),(5,.is v0),(10,.is (.int .i64 (l.length:Int))),(11,.is (.int .i64 (i.1:Int))),(18,EH 1000 v0)])
  (fun _=>[]) (fun i=>[(1000,⟨65,28,l.length,((l.take i.1).map GW++l.drop i.1).flatMap DR,false⟩)]) (fun i=>l.length-i.1) ⟨0,by omega⟩
  (fun K=>AM ⟨s_t,⟨_,rfl,PK _ _⟩,s_t,s_t,s_t,trivial⟩ trivial ⟨rfl,trivial⟩) ?_
 rintro⟨i,hi⟩
 dsimp only at hi ⊢
 try refine A1 ?_
 refine A0 (A4 rfl rfl rfl (A6 rfl (kn rfl) (kn rfl) BM) .nil) ?_
 try refine A1 ?_
 refine AB rfl (fun c=>?_) (fun c=>?_)
 ·have hlt:i<l.length:=by have:=of_decide_eq_true c;omega
  obtain⟨x,hx⟩:∃ x,l[i]?=some x:=⟨_,List.getElem?_eq_getElem hlt⟩
  have hil:((l.take i).map GW).length=i:=by rw[List.length_map,List.length_take];omega
  have hc:=h x (List.mem_of_getElem? hx) 65 28 l.length (((l.take i).map GW).flatMap DR) ((l.drop (i+1)).flatMap DR) v0 rfl
  try refine A1 ?_
  refine A0 (A8 rfl rfl rfl rfl rfl (AC rfl rfl rfl rfl rfl .nil)) ?_
  try refine A1 ?_
  refine AG ?_
  refine BE ?_
  refine BE ?_
  refine BE ?_
  refine MG (t:=15) (s:=18) rfl rfl ?_
  refine AK (GQ rfl rfl rfl rfl rfl ⟨Int.natCast_nonneg _,Int.ofNat_lt.2 hlt⟩ sle_30 esz_30) ?_
  refine BK 17 rfl (Imp.of_eq (y:=atP 1000 v0 (((l.take i).map GW).flatMap DR).length) (by rw[IE E3,hil];rfl)) ?_
  refine BK 14 rfl (OY f) ?_
  refine D5 rfl (I1 hx) ?_
  refine HU (zs:=[_]) rfl rfl rfl rfl hfc (hc) trivial ⟨rfl,trivial⟩ (kn rfl) ⟨(kn rfl),trivial⟩ rfl (YT.tidy) ?_
  rintro _ _ _ ⟨rfl,rfl,rfl⟩
  refine AD ?_
  try refine A1 ?_
  refine D5 rfl (GP hx) ?_
  refine A0 (A4 rfl rfl rfl (A6 rfl (kn rfl) (kn rfl) (AW (by first | omega | (dsimp only;omega)))) (A8 rfl rfl rfl rfl rfl .nil)) ?_
  try refine A1 ?_
  refine AV ⟨i+1,by omega⟩ (by dsimp only;omega) (fun K=>AM ⟨s_t,s_t,s_t,s_t,s_t,trivial⟩ trivial ⟨rfl,trivial⟩)
 obtain rfl:i=l.length:=by have:=of_decide_eq_false c;omega
 try refine A1 ?_
 refine MM (t:=5) (s:=18) rfl rfl ?_
 refine A0 (A8 rfl rfl rfl rfl rfl (AC rfl rfl rfl rfl rfl .nil)) ?_
 try refine A1 ?_
 refine CU 4 1000 rfl rfl rfl ?_
 exact A7 rfl rfl (.tmp (kn rfl) (.nil)) (Imp.of_eq (by rw[List.take_length,List.drop_length,List.append_nil,List.length_map];rfl)) rfl
theorem KG{α:Type}{f:FuncId}{D D':α->List Dat}{g:α->α}{x:α}(hD:∀ a,D' a=D a)(h:GN f D g x):GN f D' g x:=by
 unfold GN at *
 rw[hD,hD]
 exact h
theorem QW{l:List Stp}(hr:B7 BS BX none l=true):B7 (fun _=>true) SI none (l.map BF)=true:=by
 have:=DI BF (fun _=>true) SI none l
 rw[Option.map_none]at this
 rw[this]
 refine HF (fun _ _ _=>rfl) (fun p x h=>?_) hr
 unfold BX at h
 unfold SI
 rw[CZ,CZ]
 by_cases h1:p.1.1=1
 ·rw[if_pos h1]at h
  simp only[Bool.not_eq_true',decide_eq_false_iff_not]at h
  have:CG x.1.1≠1:=by unfold CG;repeat' split;all_goals omega
  simp[this]
 ·have:CG p.1.1≠1:=by unfold CG;repeat' split;all_goals omega
  simp[this]
theorem LS(l:List Stp)(hl:l.length<=80)(hr:B7 BS BX none l=true)(hk:∀ s∈l,IX s.2)(hi:∀ s∈l,AU (BG s.2)=true):EF Try.prog [] 12 [.one (.row 30 l.length (l.flatMap BC))] (.part (.one (.row 30 (ID l).length ((ID l).flatMap BC)))):=by
 have ht:=T1 (l.map BF) (by rw[List.length_map];exact hl) (fun s hs=>by
  obtain⟨u,hu,rfl⟩:=List.mem_map.1 hs
  exact JY (DJ hr u hu) (hi u hu)) (QW hr)
 refine AF 6 Try.func12 rfl rfl rfl fun w D=>?_
 try refine A1 ?_
 refine A0 (AC rfl rfl rfl rfl rfl .nil) ?_
 try refine A1 ?_
 refine A0 (A8 rfl rfl rfl rfl rfl (A4 rfl rfl rfl (AH rfl (by kernel_rfl) (KX 27 (by kernel_rfl) l hl (fun s hs=>KG C0 (NH s (DJ hr s hs) (hk s hs)))) ⟨(kn rfl),⟨(kn rfl),trivial⟩⟩) (A4 rfl rfl rfl (AH rfl (by kernel_rfl) (ht) ⟨(kn rfl),trivial⟩) (AC rfl rfl rfl rfl rfl .nil)))) ?_
 try refine A1 ?_
 exact A7 rfl rfl (.tmp (kn rfl) (.nil)) (Imp.of_eq rfl) rfl
end Go.Proofs.Ytecfdcdkkgmkpaa
