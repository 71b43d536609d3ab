/- Part 19. Conditions: as each theorem says. -/
import Derived.Test.YtgcphgdkddihcaaGreatDoorSR18
import Derived.Shelf.SlGeneric
import Derived.Shelf.SlSortCmp.WholeK
import Derived.Ground.SlsfProg
import Derived.Test.YtgcphgdkddihcaaGreatDoorProg
import Derived.WalkSpells
import Derived.Laws.EntriesVeiled
import Derived.Shelf.SlSortCmp.NoneTotal
set_option maxRecDepth 100000
namespace Go.Proofs.YtgcphgdkddihcaaGreatDoor
open Go.RowKit
end Go.Proofs.YtgcphgdkddihcaaGreatDoor
namespace Go.Proofs
open Go.Shelf
def Tryz.sortLaid_ren:Go.Shelf.Ren:=⟨fun | 6=>92 | 15=>146 | 14=>145 | 28=>194 | 29=>195 | 20=>186 | 21=>187 | 22=>188 | 23=>189 | 24=>190 | 25=>191 | 26=>192 | 27=>193 | 46=>217 | 47=>218 | 48=>219 | 49=>220 | 50=>221 | 57=>240 | n=>n,fun | 22=>69 | 24=>61 | 25=>219 | 3=>3 | 39=>287 | 0=>0 | 53=>339 | 55=>341 | 4=>4 | 46=>333 | 45=>332 | 50=>57 | 5=>5 | 9=>9 | 66=>356 | 70=>360 | 76=>368 | 77=>131 | n=>n,fun | n=>n⟩
theorem Tryz.sortLaid:Go.Proofs.SlLaysF0.n6 Tryz.prog Tryz.sortLaid_ren:={
 mixed:=by kernel_rfl
 f6:=⟨Tryz.f92.name,by decide,Tryz.func92.trans (congrArg some (by kernel_rfl))⟩
 f14:=⟨Tryz.f145.name,by decide,Tryz.func145.trans (congrArg some (by kernel_rfl))⟩
 f15:=Tryz.func146.trans (congrArg some (by kernel_rfl))
 f20:=⟨Tryz.f186.name,by decide,Tryz.func186.trans (congrArg some (by kernel_rfl))⟩
 f21:=⟨Tryz.f187.name,by decide,Tryz.func187.trans (congrArg some (by kernel_rfl))⟩
 f22:=⟨Tryz.f188.name,by decide,Tryz.func188.trans (congrArg some (by kernel_rfl))⟩
 f23:=⟨Tryz.f189.name,by decide,Tryz.func189.trans (congrArg some (by kernel_rfl))⟩
 f24:=⟨Tryz.f190.name,by decide,Tryz.func190.trans (congrArg some (by kernel_rfl))⟩
 f25:=⟨Tryz.f191.name,by decide,Tryz.func191.trans (congrArg some (by kernel_rfl))⟩
 f26:=⟨Tryz.f192.name,by decide,Tryz.func192.trans (congrArg some (by kernel_rfl))⟩
 f27:=⟨Tryz.f193.name,by decide,Tryz.func193.trans (congrArg some (by kernel_rfl))⟩
 f28:=Tryz.func194.trans (congrArg some (by kernel_rfl))
 f29:=Tryz.func195.trans (congrArg some (by kernel_rfl))
 f46:=⟨Tryz.f217.name,by decide,Tryz.func217.trans (congrArg some (by kernel_rfl))⟩
 f47:=Tryz.func218.trans (congrArg some (by kernel_rfl))
 f48:=Tryz.func219.trans (congrArg some (by kernel_rfl))
 f49:=⟨Tryz.f220.name,by decide,Tryz.func220.trans (congrArg some (by kernel_rfl))⟩
 f50:=⟨Tryz.f221.name,by decide,Tryz.func221.trans (congrArg some (by kernel_rfl))⟩
 f57:=⟨Tryz.f240.name,by decide,Tryz.func240.trans (congrArg some (by kernel_rfl))⟩
 t0:=Tryz.underlying0
 a0:=Tryz.isAgg0
 z0:=Tryz.sizeOf0
 v0:=Tryz.zeroValue0
 t3:=Tryz.underlying3
 a3:=Tryz.isAgg3
 z3:=Tryz.sizeOf3
 v3:=Tryz.zeroValue3
 t4:=Tryz.underlying4
 a4:=Tryz.isAgg4
 z4:=Tryz.sizeOf4
 v4:=Tryz.zeroValue4
 t5:=Tryz.underlying5
 a5:=Tryz.isAgg5
 z5:=Tryz.sizeOf5
 v5:=Tryz.zeroValue5
 t9:=Tryz.underlying9
 a9:=Tryz.isAgg9
 z9:=Tryz.sizeOf9
 v9:=Tryz.zeroValue9
 t22:=Tryz.underlying69
 a22:=Tryz.isAgg69
 z22:=Tryz.sizeOf69
 v22:=Tryz.zeroValue69
 t25:=Tryz.underlying219
 a25:=Tryz.isAgg219
 z25:=Tryz.sizeOf219
 v25:=Tryz.zeroValue219
 t39:=Tryz.underlying287
 a39:=Tryz.isAgg287
 z39:=Tryz.sizeOf287
 v39:=Tryz.zeroValue287
 t45:=Tryz.underlying332
 a45:=Tryz.isAgg332
 z45:=Tryz.sizeOf332
 v45:=Tryz.zeroValue332
 t46:=Tryz.underlying333
 a46:=Tryz.isAgg333
 z46:=Tryz.sizeOf333
 v46:=Tryz.zeroValue333
 t50:=Tryz.underlying57
 a50:=Tryz.isAgg57
 z50:=Tryz.sizeOf57
 v50:=Tryz.zeroValue57
 t53:=Tryz.underlying339
 a53:=Tryz.isAgg339
 z53:=Tryz.sizeOf339
 v53:=Tryz.zeroValue339
 t55:=Tryz.underlying341
 a55:=Tryz.isAgg341
 z55:=Tryz.sizeOf341
 v55:=Tryz.zeroValue341
 t66:=Tryz.underlying356
 a66:=Tryz.isAgg356
 z66:=Tryz.sizeOf356
 v66:=Tryz.zeroValue356
 t70:=Tryz.underlying360
 a70:=Tryz.isAgg360
 z70:=Tryz.sizeOf360
 v70:=Tryz.zeroValue360
 t76:=Tryz.underlying368
 a76:=Tryz.isAgg368
 z76:=Tryz.sizeOf368
 v76:=Tryz.zeroValue368
 t77:=Tryz.underlying131
 a77:=Tryz.isAgg131
 z77:=Tryz.sizeOf131
 v77:=Tryz.zeroValue131 }
end Go.Proofs
namespace Go.Proofs.YtgcphgdkddihcaaGreatDoor
open Go.RowKit
section
open Go.RowKit Go.Sort
theorem NY(f:Fd):∀ l:List Fd,(W9 f l).Perm (f::l)
 | []=>.refl _
 | g::l=>by
  unfold W9
  split
  ·exact((NY f l).cons g).trans (.swap f g l)
  ·exact .refl _
theorem P4(f:Fd):∀ {l:List Fd},l.Pairwise (fun a b=>a.number<=b.number)->(W9 f l).Pairwise (fun a b=>a.number<=b.number)
 | [],_=>List.pairwise_singleton _ _
 | g::l,h=>by
  obtain⟨h1,h2⟩:=List.pairwise_cons.1 h
  unfold W9
  split
  ·rename_i hlt
   refine List.pairwise_cons.2 ⟨fun x hx=>?_,P4 f h2⟩
   rcases List.mem_cons.1 ((NY f l).mem_iff.1 hx)with rfl | hx
   ·omega
   ·exact h1 x hx
  ·rename_i hlt
   refine List.pairwise_cons.2 ⟨fun x hx=>?_,h⟩
   rcases List.mem_cons.1 hx with rfl | hx
   ·omega
   ·have:=h1 x hx
    omega
theorem RW:∀ (l out:List Fd),(l.foldl (fun out f=>W9 f out) out).Perm (l++out)
 | [],out=>.refl _
 | f::l,out=>(RW l (W9 f out)).trans (((NY f out).append_left l).trans (List.perm_middle))
theorem NM:∀ (l:List Fd) {out:List Fd},out.Pairwise (fun a b=>a.number<=b.number)->(l.foldl (fun out f=>W9 f out) out).Pairwise (fun a b=>a.number<=b.number)
 | [],_,h=>h
 | f::l,_,h=>NM l (P4 f h)
theorem H8(l:List Fd):(CU l).Perm l:=by
 have h:=RW l []
 rwa [List.append_nil]at h
theorem NT(l:List Fd):(CU l).Pairwise (fun a b=>a.number<=b.number):=NM l .nil
theorem OH(l:List Fd):(CU l).length=l.length:=(H8 l).length_eq
def W1(l:List Fd):Prop:=∀ a∈l,∀ b∈l,a.number=b.number->a=b
theorem WY{l m:List Fd}(hd:W1 l)(hp:m.Perm l)(hs:m.Pairwise (fun a b=>a.number<=b.number)):m=CU l:=
 List.Perm.eq_of_pairwise (le:=fun a b=>a.number<=b.number) (fun a b ha hb h1 h2=>hd a (hp.mem_iff.1 ha) b ((H8 l).mem_iff.1 hb) (by omega)) hs (NT l) (hp.trans (H8 l).symm)
theorem Q0l(a:Int)(w:World):Calls Tryz.prog 147 #[.int .i64 a] w fun e w'=>e=.returned (.bool false)/\w'=w:=by
 go_enter Tryz.func147,Tryz.ntmps147
 go_wp2
 all_goals (go_ret;exact⟨by simp,rfl⟩)
set_option maxHeartbeats 1000000 in
theorem Q3C(x y:Int)(w:World):Calls Tryz.prog 94 #[.int .i64 x,.int .i64 y] w fun e w'=>e=.returned (.int .i64 (Lib.compareInt x y))/\w'=w:=by
 go_enter Tryz.func94,Tryz.ntmps94
 go_wp2_with (go_at_call 147;refine(Q0l _ _).mono ?_;rintro e w' ⟨rfl,rfl⟩)
 all_goals (go_ret;refine⟨?_,rfl⟩;unfold Lib.compareInt;(repeat' split)<;>first | rfl | (exfalso;omega))
def fdV(f:Fd):List Value:=[.string (str f.name),.int .i64 f.number,.int .i64 f.label,.int .i64 f.kind,.int .i64 f.type,.bool f.packed,.int .i64 f.key,.int .i64 f.mapKey,.int .i64 f.oneof]
theorem Q77(f:Fd):fdD f=(fdV f).map .cell:=rfl
def ZB(x y:Fd):Int:=Lib.compareInt x.number y.number
set_option maxHeartbeats 1000000 in
theorem Q4m(x y:Fd)(W:World):Calls Tryz.prog 93 #[.agg (fdV x).toArray,.agg (fdV y).toArray] W fun e w'=>e=.returned (.int .i64 (ZB x y)) /\ ∃ q os',w'=grow (W.drewN q) os':=by
 have hcon:=fun W'=>Q3C x.number y.number W'
 unfold ZB
 generalize Lib.compareInt x.number y.number=r at hcon ⊢
 unfold fdV
 go_enter Tryz.func93,Tryz.ntmps93
 go_wp2_with (go_at_call 94;refine(hcon _).mono ?_;rintro e w' ⟨rfl,rfl⟩)
 go_ret
 exact⟨rfl,0,_,by rw[alloc_eq_grow,alloc_eq_grow,grow_grow];rfl⟩
theorem X4(x y:Fd):ltOf ZB x y=decide (x.number<y.number):=by
 unfold ltOf ZB Lib.compareInt
 by_cases h:x.number<y.number
 ·rw[if_pos h]
  simp[h]
 ·rw[if_neg h]
  split<;>simp[h]
theorem Q8f:SWO (ltOf ZB) where
 irrefl x:=by rw[X4];simp
 trans x y z h1 h2:=by rw[X4]at *;simp at *;omega
 ntrans x y z h1 h2:=by rw[X4]at *;simp at *;omega
end
section
open Go.RowKit Go.Sort
theorem RJ{α:Type}[Inhabited α]{enc:α->List Value}{k:Nat}(hk:∀ x,(enc x).length=k)(d:Array α):(flatK enc k d).toList=d.toList.flatMap enc:=by
 apply List.ext_getElem?
 intro i
 have hfl:∀ l:List α,(l.flatMap enc).length=l.length*k:=fun l=>by
  induction l with
  | nil=>simp
  | cons x l ih=>rw[List.flatMap_cons,List.length_append,hk,ih,List.length_cons,Nat.succ_mul,Nat.add_comm]
 have hg:∀ (l:List α) (i:Nat),(l.flatMap enc)[i]?=(l[i / k]?).bind fun x=>(enc x)[i % k]?:=fun l=>by
  induction l with
  | nil=>intro i;simp
  | cons x l ih=>
   intro i
   rw[List.flatMap_cons]
   rcases Nat.lt_or_ge i k with h | h
   ·rw[List.getElem?_append_left (by rw[hk];exact h),Nat.div_eq_of_lt h,Nat.mod_eq_of_lt h]
    rfl
   ·rw[List.getElem?_append_right (by rw[hk];exact h),hk,ih]
    have hk0:0<k\/k=0:=by omega
    rcases hk0 with hk0 | hk0
    ·have e1:i / k=(i-k) / k+1:=by
      exact Nat.div_eq_sub_div hk0 h
     have e2:i % k=(i-k) % k:=by rw[Nat.mod_eq_sub_mod h]
     rw[e1,e2]
     rfl
    ·subst hk0
     cases hx:enc x with
     | nil=>
      simp only[Nat.sub_zero,Nat.div_zero,Nat.mod_zero,List.getElem?_cons_zero,Option.bind_some]
      rw[hx]
      cases hl:l[0]? with
      | none=>simp
      | some y=>
       have hy:=hk y
       simp[List.eq_nil_of_length_eq_zero hy]
     | cons v vs=>have:=hk x;rw[hx]at this;simp at this
 rw[hg,Array.getElem?_toList]
 rcases Nat.lt_or_ge i (d.size*k)with h | h
 ·have hk0:0<k:=Nat.pos_of_ne_zero fun e=>by subst e;simp at h
  have h1:i / k<d.size:=Nat.div_lt_of_lt_mul (by rw[Nat.mul_comm];exact h)
  have h2:i % k<k:=Nat.mod_lt _ hk0
  rw[Array.getElem?_eq_getElem (by rw[size_flatK];exact h),<- getElem!_pos,get_flatK enc k d i h,Array.getElem?_toList,Array.getElem?_eq_getElem h1,Option.bind_some,getElem!_pos d _ h1,getElem!_pos _ _ (by rw[hk];exact h2),List.getElem?_eq_getElem (by rw[hk];exact h2)]
 ·rw[Array.getElem?_eq_none (by rw[size_flatK];exact h)]
  have h1:d.toList[i / k]?=none\/k=0:=by
   rcases Nat.eq_zero_or_pos k with e | e
   ·exact .inr e
   ·refine .inl (List.getElem?_eq_none ?_)
    rw[Array.length_toList]
    exact(Nat.le_div_iff_mul_le e).2 h
  rcases h1 with h1 | h1
  ·rw[h1];rfl
  ·subst h1
   cases d.toList[i / 0]? with
   | none=>rfl
   | some y=>simp[List.eq_nil_of_length_eq_zero (hk y)]
instance:Inhabited Fd:=⟨fd0⟩
theorem Q73(w:World)(os:Array Obj):Below w.heap.size w (Go.Sort.grow w os):=⟨rfl,rfl,rfl,by simp[Go.Sort.grow],fun g hg=>by
 show(w.heap++os)[g]?=w.heap[g]?
 rw[Array.getElem?_append_left hg]⟩
theorem Q6r(x:Fd):∀ v∈fdV x,v.oneCell'=true:=fun v hv=>by
 simp only[fdV,List.mem_cons,List.not_mem_nil,or_false]at hv
 rcases hv with rfl | rfl | rfl | rfl | rfl | rfl | rfl | rfl | rfl<;>rfl
theorem Q31(l:List Fd):l.flatMap fdD=(l.flatMap fdV).map .cell:=by
 induction l with
 | nil=>rfl
 | cons x l ih=>rw[List.flatMap_cons,List.flatMap_cons,List.map_append,ih,Q77]
theorem Q3d(l:List Fd):(l.flatMap fdV).length=l.length*9:=by
 induction l with
 | nil=>rfl
 | cons x l ih=>rw[List.flatMap_cons,List.length_append,ih,List.length_cons,Nat.succ_mul,Nat.add_comm];rfl
theorem Q2K(blk off size:Nat)(w:World):CmpLays Tryz.prog 93 #[] fdV 9 ZB blk off size w:=fun _ _ _ _ x y=>Q4m x y _
theorem Q2S(blk cap:Nat)(fs:List Fd)(w:World)(hu:W1 fs)(hH:HoldsK fdV 9 w blk 0 fs.toArray)(hblk:blk<w.heap.size)(hsz:fs.length<4611686018427387904):
  Calls Tryz.prog 92 #[.slice (some ⟨blk,0,none⟩) fs.length cap,.func (.func 93) #[] #[]] w fun e w'=>
   e=.returned (.tuple #[]) /\ ∃ n os,w'=sortWorldK fdV 9 w blk 0 n (CU fs).toArray os:=by
 have eg:∀ args w,(callFunc 93 args).run Tryz.prog w=.ok (.enter 93 args) w:=enters_of Tryz.func93 (by kernel_rfl) rfl
 have h:=AnyQ.slices_SortFunc Tryz.sortLaid 9 Tryz.isAgg61 Tryz.sizeOf61 fdV (fun _=>rfl) Q6r ZB Q8f 93 #[] blk 0 cap fs.toArray w eg (Q2K _ _ _ _) hH hblk (by simpa using hsz)
 have h':Calls Tryz.prog 92 #[.slice (some ⟨blk,0,none⟩) fs.toArray.size cap,.func (.func 93) #[] #[]] w fun e w'=>
   e=.returned (.tuple #[]) /\ ∃ d' n os,PermIn 0 fs.toArray.size fs.toArray d'/\SortedIn (ltOf ZB) 0 fs.toArray.size d'/\w'=sortWorldK fdV 9 w blk 0 n d' os:=h
 rw[List.size_toArray]at h'
 refine h'.mono fun e w' ⟨h1,d',n,os,hp,hs,hw⟩=>⟨h1,n,os,?_⟩
 have he:d'=(CU fs).toArray:=by
  obtain⟨hsz',_,hperm⟩:=hp
  have hsz2:d'.size=fs.length:=by simpa using hsz'
  have e1:d'.extract 0 fs.length=d':=by rw[<- hsz2];exact Array.extract_size
  have e2:fs.toArray.extract 0 fs.length=fs.toArray:=by simp
  have hperm:(d'.extract 0 fs.length).toList.Perm (fs.toArray.extract 0 fs.length).toList:=by simpa using hperm
  rw[e1,e2]at hperm
  have hq:d'.toList=CU fs:=WY hu (by simpa using hperm) (by
   rw[List.pairwise_iff_getElem]
   intro i j hi hj hij
   have hi':i<d'.size:=by simpa using hi
   have hj':j<d'.size:=by simpa using hj
   have:=hs i j (Nat.zero_le _) hij (by omega)
   rw[getElem!_pos d' j hj',getElem!_pos d' i hi',X4]at this
   have h3:=Int.not_lt.1 (of_decide_eq_false this)
   rw[Array.getElem_toList,Array.getElem_toList]
   exact h3)
  rw[<- hq]
 rw[hw,he]
theorem Q2x(p:Option Addr)(cap:Nat)(fv:Value)(w:World):Calls Tryz.prog 92 #[.slice p 0 cap,fv] w fun e w'=>e=.returned (.tuple #[])/\w'=w:=AnyF.slices_SortFunc_none Tryz.sortLaid p cap fv w
section
variable{cx:Cx}{T:TL}{B:BL}{R:RL}
theorem Q7o{o:Oper}{ops:Array Oper}{Q:Exit->Act->World->Prop}{l:List Oper}{d:Nat}{x:Operand}{ts:Array TypeId}{r:Nat}{fs:List Fd}(hg:o.guard=none)(hd:o.dst=some d)(hn:Nat.blt d cx.n=true)(ho:o.op=.call { callee:=.value (.func 92),args := #[x,.func 93],argTypes:=ts })
  (hx:Kn T x (.own r)) (hr:lk r R=some ⟨61,9,fs.length,fs.flatMap fdD,false⟩) (hu:W1 fs) (hl:fs.length<=100000) (hE:E cx ((d,.junk)::T) B ((r,⟨61,9,(CU fs).length,(CU fs).flatMap fdD,false⟩)::R) (wpList Tryz.prog ops Q l)):E cx T B R (wpList Tryz.prog ops Q (o::l)):=fun M V a w hrel=>by
 refine wpList_plain hg fun K hK=>?_
 have hh:=hrel.heap
 have hxv:a.eval x=V r:=hx w (Dc cx B R M V w) M V a fun t z _ hz=>hrel.tmp t z hz
 have hcal:BU Tryz.prog 92=true:=by kernel_rfl
 have hrun:(execOp a.eval o).run Tryz.prog w=.ok (.enter 92 #[V r,.func (.func 93) #[] #[]]) w:=by
  have he:a.eval (.func 92)=.func (.func 92) #[] #[]:=rfl
  have hc:a.eval (.func 93)=.func (.func 93) #[] #[]:=rfl
  simp[execOp,ho,resolve,he,hc,hxv,Deferred.ofValue,invoke,C2 hcal]
 unfold Oper.wp
 rw[hrun]
 simp only[Oper.upon,hd]
 obtain⟨p,cap,hV,hcap,hp⟩:=hh.own_slice hr rfl
 rcases Nat.eq_zero_or_pos fs.length with h0 | hpos
 ·obtain rfl:fs=[]:=List.eq_nil_of_length_eq_zero h0
  rw[hV]
  refine(Q2x p cap _ w).mono fun e w' ⟨h1,h2⟩=>?_
  subst h1
  subst h2
  have hR:E cx ((d,.junk)::T) B R (wpList Tryz.prog ops Q l):=Q7w (R':=(r,⟨61,9,(CU []).length,(CU []).flatMap fdD,false⟩)::R) (fun b=>by
   by_cases e:b=r
   ·subst e
    rw[hr]
    exact(B5 _ _ _).symm
   ·exact(BG _ _ (Ne.symm e)).symm) hE
  exact hK _ _ (hR M V _ _ (hrel.put (Below.refl _ _) (C0 hn) trivial))
 obtain⟨g,cap',cur,xs,e1,e2,e3,e4,e5,e6,e7,e8⟩:=hh.own_shape hr rfl hpos
 have hxs:xs=fs.flatMap fdV:=by
  rw[Q31]at e8
  exact e8.cells
 have hfl:(flatK fdV 9 fs.toArray).toList=fs.flatMap fdV:=RJ (enc:=fdV) (k:=9) (fun _=>rfl) fs.toArray
 have hH:HoldsK fdV 9 w g 0 fs.toArray:=fun j hj=>by
  rw[size_flatK,List.size_toArray]at hj
  have hjc:cur[j]?=some (flatK fdV 9 fs.toArray)[j]!:=by
   have h1:(cur.toList.take (fs.length*9))[j]?=(fs.flatMap fdV)[j]?:=by rw[e6,hxs]
   rw[List.getElem?_take,if_pos hj,<- hfl,Array.getElem?_toList,Array.getElem?_toList]at h1
   rw[h1,Array.getElem?_eq_getElem (by rw[size_flatK,List.size_toArray];exact hj),<- getElem!_pos]
  refine⟨?_,?_⟩
  ·simp[World.cell?,e2,hjc]
  ·simp[World.frozen?,e2]
 rw[e1]
 refine(Q2S g cap' fs w hu hH (by rcases Nat.lt_or_ge g w.heap.size with h | h;exact h;rw[Array.getElem?_eq_none h]at e2;cases e2) (by omega)).mono fun e w' ⟨h1,n,os,hw⟩=>?_
 subst h1
 let wB:World:=putRowK fdV 9 (Sort.ahead w n) g 0 (CU fs).toArray
 have hwB:wB.heap=w.heap.modify g (onCells (putCells id 0 (flatK fdV 9 (CU fs).toArray))):=rfl
 have hsl:=OH fs
 have hrelB:Rel cx T B ((r,⟨61,9,(CU fs).length,(CU fs).flatMap fdD,false⟩)::R) M V a wB:=by
  refine hrel.row_turn (g:=g) hr rfl (by rw[e1];rfl) rfl rfl (fun q hq=>?_) (by rw[hwB];simp) rfl rfl rfl fun D' hk hD=>?_
  ·rw[hwB,Array.getElem?_modify,if_neg (Ne.symm hq)]
  ·refine⟨(CU fs).flatMap fdV,.inl ⟨rfl,by rw[Q3d],.inr ⟨g,cap',putCells id 0 (flatK fdV 9 (CU fs).toArray) cur,by rw[hsl];exact e1,Nat.zero_le _,?_,Nat.le_trans (Nat.le_of_eq hsl) e3,e4,?_,?_⟩⟩,.inl ⟨rfl,by rw[Q31];exact .of_cells _ _ _⟩⟩
   ·rw[hwB,Array.getElem?_modify,if_pos rfl,e2]
    rfl
   ·simp[putCells,e5]
   ·have hcl:cur.toList.length=cap'*9:=by simpa using e5
    have hle:fs.length*9<=cap'*9:=Nat.mul_le_mul_right _ e3
    rw[<- RJ (enc:=fdV) (k:=9) (fun _=>rfl) (CU fs).toArray]
    apply List.ext_getElem?
    intro i
    rw[List.getElem?_take,Array.getElem?_toList,Array.getElem?_toList]
    split
    ·rename_i hi
     have hi:i<(CU fs).length*9:=hi
     rw[hsl]at hi
     have hic:i<cur.size:=by rw[e5];omega
     have hif:i<(flatK fdV 9 (CU fs).toArray).size:=by rw[size_flatK,List.size_toArray,hsl];exact hi
     unfold putCells
     rw[Array.getElem?_mapIdx,Array.getElem?_eq_getElem hic,Option.map_some,if_pos ⟨Nat.zero_le _,by omega⟩,Array.getElem?_eq_getElem hif,<- getElem!_pos]
     rfl
    ·rename_i hi
     have hi:¬ i<(CU fs).length*9:=hi
     rw[hsl]at hi
     rw[Array.getElem?_eq_none (by rw[size_flatK,List.size_toArray,hsl];omega)]
 have hb:Below wB.heap.size wB w':=by
  rw[hw]
  exact Q73 wB os
 exact hK _ _ (hE M V _ _ (hrelB.put hb (C0 hn) trivial))
end
end
def Q27(fs:List Fd):Except Flt (List Fd)->Except Flt (List Fd)
 | .error e=>.error e
 | .ok l=>.ok (fs++l)
theorem Q4K(r:Except Flt (List Fd)):Q27 [] r=r:=by cases r<;>rfl
theorem Q3a{look:List UInt8->Option Ty}{m:Msg}{i n:Nat}{x:Fld}{fs:List Fd}{z:Except Flt (List Fd)}(hx:m.fields[i]?=some x)(hz:z=Q27 fs (EE look m i (m.fields.drop i)))(h:MI look m i x=.error n):z=.error (n,x.line,x.col):=by
 rw[hz,G8 hx,EE,h]
 rfl
theorem Q09{look:List UInt8->Option Ty}{m:Msg}{i:Nat}{x:Fld}{f:Fd}{fs:List Fd}{z:Except Flt (List Fd)}(hx:m.fields[i]?=some x)(hz:z=Q27 fs (EE look m i (m.fields.drop i)))(h:MI look m i x=.ok f):z=Q27 (fs++[f]) (EE look m (i+1) (m.fields.drop (i+1))):=by
 rw[hz,G8 hx,EE,h]
 dsimp only
 cases EE look m (i+1) (m.fields.drop (i+1))with
 | error e=>rfl
 | ok l=>show Except.ok (fs++f::l)=.ok ((fs++[f])++l);rw[List.append_assoc];rfl
theorem Q2L{look:List UInt8->Option Ty}{m:Msg}{fs:List Fd}{z:Except Flt (List Fd)}(hz:z=Q27 fs (EE look m m.fields.length (m.fields.drop m.fields.length))):z=.ok fs:=by
 rw[hz,List.drop_length,EE]
 show Except.ok (fs++[])=_
 rw[List.append_nil]
theorem JE{look:List UInt8->Option Ty}{m:Msg}{i:Nat}{x:Fld}{f:Fd}(h:MI look m i x=.ok f):i<40/\XG (m.fields.take i) x=true/\f.number=x.number/\f.name=x.name:=by
 unfold MI at h
 by_cases h1:i<40
 ·rw[if_neg (fun h=>h h1)]at h
  cases h2:GS x.number
  ·rw[h2,if_pos rfl]at h;cases h
  rw[h2,if_neg (by decide)]at h
  cases h3:XG (m.fields.take i) x
  ·rw[h3,if_pos rfl]at h;cases h
  rw[h3,if_neg (by decide)]at h
  cases h4:XK m x
  ·rw[h4,if_pos rfl]at h;cases h
  rw[h4,if_neg (by decide)]at h
  refine⟨h1,rfl,?_⟩
  cases h5:IA look x.type with
  | none=>rw[h5]at h;cases h
  | some kt=>
   obtain⟨k,t⟩:=kt
   rw[h5]at h
   dsimp only at h
   cases h6:PC x
   ·rw[h6,if_pos rfl]at h;cases h
   rw[h6,if_neg (by decide)]at h
   cases h7:ZD x k
   ·rw[h7,if_pos rfl]at h;cases h
   rw[h7,if_neg (by decide)]at h
   cases h8:XC x k
   ·rw[h8,if_pos rfl]at h;cases h
   rw[h8,if_neg (by decide)]at h
   obtain rfl:=Except.ok.inj h
   exact⟨rfl,rfl⟩
 ·rw[if_pos h1]at h;cases h
theorem K3{look:List UInt8->Option Ty}{m:Msg}:∀ {l:List Fld} {i:Nat} {fs:List Fd},EE look m i l=.ok fs->fs.length=l.length /\ ∀ (j:Nat) f x,fs[j]?=some f->l[j]?=some x->MI look m (i+j) x=.ok f
 | [],i,fs,h=>by
  obtain rfl:=Except.ok.inj h
  exact⟨rfl,fun j f x hf=>by cases hf⟩
 | y::l,i,fs,h=>by
  unfold EE at h
  cases h1:MI look m i y with
  | error n=>rw[h1]at h;cases h
  | ok f=>
   rw[h1]at h
   dsimp only at h
   cases h2:EE look m (i+1) l with
   | error e=>rw[h2]at h;cases h
   | ok gs=>
    rw[h2]at h
    obtain rfl:=Except.ok.inj h
    obtain⟨h3,h4⟩:=K3 h2
    refine⟨by rw[List.length_cons,List.length_cons,h3],fun j g x hg hx=>?_⟩
    cases j with
    | zero=>
     obtain rfl:=Option.some.inj hg
     obtain rfl:=Option.some.inj hx
     exact h1
    | succ j=>rw[show i+(j+1)=(i+1)+j by omega];exact h4 j g x hg hx
theorem UX{l:List Fld}{x:Fld}(h:XG l x=true){y:Fld}(hy:y∈l):y.name≠x.name/\y.number≠x.number:=by
 unfold XG at h
 rw[Bool.not_eq_true',List.any_eq_false]at h
 have:=h y hy
 simpa using this
theorem IC{look:List UInt8->Option Ty}{m:Msg}{fs:List Fd}(h:EE look m 0 m.fields=.ok fs):fs.length=m.fields.length/\fs.length<=40/\W1 fs /\ ∀ a∈fs,∀ b∈fs,a.name=b.name->a=b:=by
 obtain⟨h1,h2⟩:=K3 h
 have key:∀ (i j:Nat) a b,i<j->fs[i]?=some a->fs[j]?=some b->a.number≠b.number/\a.name≠b.name:=fun i j a b hij ha hb=>by
  have hj:j<m.fields.length:=by rw[<- h1];exact(List.getElem?_eq_some_iff.1 hb).1
  obtain⟨y,hy⟩:∃ y,m.fields[j]?=some y:=⟨_,List.getElem?_eq_getElem hj⟩
  obtain⟨x,hx⟩:∃ x,m.fields[i]?=some x:=⟨_,List.getElem?_eq_getElem (by omega)⟩
  have e1:=JE (h2 i a x ha hx)
  have e2:=JE (h2 j b y hb hy)
  have hm:x∈m.fields.take (0+j):=List.mem_of_getElem? (i:=i) (by rw[Nat.zero_add,List.getElem?_take,if_pos hij];exact hx)
  have e3:=UX e2.2.1 hm
  exact⟨fun e=>e3.2 (by rw[<- e1.2.2.1,<- e2.2.2.1,e]),fun e=>e3.1 (by rw[<- e1.2.2.2,<- e2.2.2.2,e])⟩
 have key2:∀ a∈fs,∀ b∈fs,(a.number=b.number\/a.name=b.name)->a=b:=fun a ha b hb e=>by
  obtain⟨i,hi⟩:=List.mem_iff_getElem?.1 ha
  obtain⟨j,hj⟩:=List.mem_iff_getElem?.1 hb
  rcases Nat.lt_trichotomy i j with h | h | h
  ·have:=key i j a b h hi hj
   rcases e with e | e
   ·exact absurd e this.1
   ·exact absurd e this.2
  ·subst h
   rw[hi]at hj
   exact Option.some.inj hj
  ·have:=key j i b a h hj hi
   rcases e with e | e
   ·exact absurd e.symm this.1
   ·exact absurd e.symm this.2
 refine⟨h1,?_,fun a ha b hb e=>key2 a ha b hb (.inl e),fun a ha b hb e=>key2 a ha b hb (.inr e)⟩
 rcases Nat.eq_zero_or_pos fs.length with h0 | h0
 ·omega
 ·obtain⟨f,hf⟩:∃ f,fs[fs.length-1]?=some f:=⟨_,List.getElem?_eq_getElem (by omega)⟩
  obtain⟨x,hx⟩:∃ x,m.fields[fs.length-1]?=some x:=⟨_,List.getElem?_eq_getElem (by omega)⟩
  have:=(JE (h2 _ f x hf hx)).1
  omega
theorem PD(n:Nat){l:List Fld}{i:Nat}{x:Fld}(hx:l[i]?=some x):wishesOf n (l.take (i+1))=wishesOf n (l.take i)++if x.key=[]then[]else[⟨n,x⟩]:=by
 unfold wishesOf
 rw[List.take_add_one,hx,Option.toList_some,List.filter_append,List.map_append]
 congr 1
 by_cases h:x.key=[]
 ·rw[if_pos h,List.filter_cons_of_neg (by simp[h])]
  rfl
 ·rw[if_neg h,List.filter_cons_of_pos (by simp[h])]
  rfl
theorem MG(n:Nat)(l:List Fld):(wishesOf n l).length<=l.length:=by
 unfold wishesOf
 rw[List.length_map]
 exact List.length_filter_le _ _
def addM(s:Cst)(m:Msg)(r:Except Flt Mg):Except Flt Cst:=match r with | .error x=>.error x | .ok g=>.ok { s with msgs:=s.msgs++[g],later:=s.later++wishesOf s.msgs.length m.fields }
theorem KV(A:List MgV):(A.flatMap mgO).length=A.length*3:=by
 induction A with
 | nil=>rfl
 | cons x l ih=>rw[List.flatMap_cons,List.length_append,ih,List.length_cons,Nat.succ_mul,Nat.add_comm];rfl
theorem XW(A:List MgV)(n:List UInt8)(v0:Value)(os:Dat):(A.flatMap mgO++[.cell (.string (str n)),.cell v0,os])[A.length*3+1]?=some (.cell v0):=by
 rw[List.getElem?_append_right (by rw[KV];omega),KV,show A.length*3+1-A.length*3=1 by omega]
 rfl
theorem Q2N(A:List MgV)(full:List UInt8)(fs:List Fd)(os:List (List UInt8))(v0:Value):(A.flatMap mgO++([.cell (.string (str full)),.cell v0,.row 1 os.length (os.flatMap textDats)]:List Dat)).set (A.length*3+1) (.orow 61 9 (CU fs).length v0 ((CU fs).flatMap fdD))=(A++[((⟨full,CU fs,os⟩:Mg),v0)]).flatMap mgO:=by
 rw[List.set_append,if_neg (by rw[KV];omega),KV,show A.length*3+1-A.length*3=1 by omega,List.flatMap_append]
 congr 1
 all_goals simp[mgO]
set_option maxHeartbeats 8000000 in
theorem Q2i(er:Nat->Er)(g:Nat)(L:List Ty)(hL:GC L)(nm ne:List (List UInt8))(hnm:nm.length<=1000)(A:List MgV)(s:Cst)(hA:A.map (·.1)=s.msgs)(hW:s.later.length<=1000000)(full:List UInt8)(hfull:nm[s.msgs.length]?=some full)(hfl:full.length<=100000000)(m:Msg)(hm:m.fine)(hns:∀ x∈m.fields,x.name.length<=140737488351232/\x.type.length<=100000000)(hos:∀ o∈m.oneofs,o.length<=140737488351232):
  EGp Tryz.prog (gC er) 53 [.box 1000 0,.part (.many (md m))] (coB L nm ne) (coR (pcV g) A s.enums s.later) [] (At g) (CY er g L nm ne (addM s m (msgM (BJ L) full m))):=by
 obtain⟨f1,f2,f3,f4,f5,f6,f7,f8⟩:=(Msg.fine_iff m).1 hm
 have hAl:A.length=s.msgs.length:=by rw[<- hA,List.length_map]
 have hsl:s.msgs.length<nm.length:=(List.getElem?_eq_some_iff.1 hfull).1
 have hfull':nm[A.length]?=some full:=by rw[hAl];exact hfull
 refine GY 115 Tryz.func53 rfl rfl rfl fun w D bor mb hpre=>?_
 try refine A0 ?_
 obtain rfl:mb 1000=g:=hpre
 refine A8 ?_
 refine IQ 2 rfl rfl rfl rfl (kn rfl) rfl rfl rfl rfl rfl ?_
 refine DZ 3 rfl rfl rfl rfl (kn rfl) rfl rfl rfl rfl ?_
 refine AG ?_
 refine A6 ?_
 try refine A0 ?_
 refine Q0p 2 0 rfl rfl rfl rfl ?_
 refine FA 2 2 rfl rfl rfl ?_
 refine A8 ?_
 refine AB (DE rfl (kq rfl) rfl one_88) ?_
 refine AB (AL rfl (kn rfl)) ?_
 refine AB (A3 rfl (kn rfl) off_95_3) ?_
 refine AB (A3 rfl (kn rfl) off_26_0) ?_
 refine AB (A4 rfl (kn rfl) rfl rfl one_23) ?_
 refine AB (Q7c rfl (kn rfl) rfl sle_23) ?_
 refine AS 5 [.is (.int .i64 0)] rfl rfl rfl rfl zr_3 (fun w D M V=>⟨rfl,fun j x v h1 h2=>AR _ h1 h2 rfl⟩) rfl rfl rfl rfl ?_
 refine C3 rfl rfl rfl (kn rfl) rfl (kn rfl) rfl rfl sz_3 rfl ?_
 refine A6 ?_
 try refine A0 ?_
 refine FA 5 5 rfl rfl rfl ?_
 refine LS 8 6 ([(26,_),(2,.part (.one (.ptr 88 [.cell (pcV (mb 1000))]))),(3,.box 3 0),(5,.part (.one (.ptr 3 [.cell (.int .i64 (A.length:Int))])))]) mixed (by kernel_rfl) rfl rfl rfl rfl rfl zr_71 rfl rfl rfl rfl (A5 rfl rfl rfl (DE rfl (kq rfl) rfl one_88) (A5 rfl rfl rfl (AL rfl (kn rfl)) (A5 rfl rfl rfl (A3 rfl (kn rfl) off_95_1) (A5 rfl rfl rfl (A4 rfl (kn rfl) rfl rfl one_54) (A5 rfl rfl rfl (AD rfl (kq rfl) one_3) (A5 rfl rfl rfl (BO rfl (kn rfl) (kn rfl) (by omega) hfull' DT sle_54 esz_54 rfl) (A5 rfl rfl rfl (AD rfl (kn rfl) one_9) (A5 rfl rfl rfl (B9 (ds:=[_,_,_]) [(0,_)] rfl ⟨rfl,(kn rfl),trivial⟩ rfl pl_71 zr_71 (fun w D=>.cons (.cell _) (.cons (.cell _) (.cons (.cell _) (.nil _ _)))) rfl) .nil)))))))) ⟨.inl ⟨rfl,rfl⟩,.inr ⟨rfl,rfl⟩,.inr ⟨rfl,rfl⟩,.inr ⟨rfl,rfl⟩,trivial⟩ ?_
 refine AI rfl rfl rfl (kn rfl) rfl (kn rfl) rfl rfl sz_71 ?_
 refine A6 ?_
 try refine A0 ?_
 refine BI 6 1 1011 61 9 rfl rfl rfl rfl rfl ?_
 refine A1 (A5 rfl rfl rfl (A3 rfl (kn rfl) off_204_1) (A5 rfl rfl rfl (A4 rfl (kn rfl) rfl rfl one_201) (A5 rfl rfl rfl (CI rfl (kn rfl) sle_201) (AA rfl rfl rfl rfl rfl .nil)))) ?_
 try refine A0 ?_
 refine CB (ι:={ i:Nat×List Fd // i.1<=m.fields.length/\i.1<=40/\i.2.length=i.1/\EE (BJ L full) m 0 m.fields=Q27 i.2 (EE (BJ L full) m i.1 (m.fields.drop i.1)) })
  (fun i=>[(2,.part (.one (.ptr 88 [.cell (pcV (mb 1000))]))),(3,.box 3 0),(5,.part (.one (.ptr 3 [.cell (.int .i64 (A.length:Int))]))),(6,.box 6 0),(28,.part (.one (.row 10 m.fields.length (m.fields.flatMap Fld.dats)))),(29,.is (.int .i64 (m.fields.length:Int))),(30,.is (.int .i64 (i.1.1:Int)))])
  (fun _=>[(6,⟨71,[.is (.string (str full)),.own 1011,.is (.slice none 0 0)]⟩),(3,⟨204,bcs (md m)⟩),(1000,⟨95,Q6A L nm ne⟩)])
  (fun i=>[(1011,⟨61,9,i.1.2.length,i.1.2.flatMap fdD,false⟩),(1001,⟨2000000+71,3,A.length,A.flatMap mgO,false⟩),(1002,⟨74,3,s.enums.length,s.enums.flatMap enD,false⟩),(1003,⟨142,1,(s.later++wishesOf A.length (m.fields.take i.1.1)).length,(s.later++wishesOf A.length (m.fields.take i.1.1)).flatMap (wiD (pcV (mb 1000))),false⟩)]) (fun i=>m.fields.length-i.1.1)
  ⟨(0,[]),by dsimp only;omega,by dsimp only;omega,rfl,(Q4K _).symm⟩
  (fun K=>B8 ⟨s_t,s_t,s_t,s_t,s_t,s_t,s_t,trivial⟩ ⟨s_b,s_b,s_b,trivial⟩ ⟨rfl,rfl,rfl,by rw[List.take_zero,show wishesOf A.length []=[] from rfl,List.append_nil];rfl,trivial⟩) ?_
 rintro⟨⟨i,fs⟩,hi,hi40,hfs,hw⟩
 dsimp only at hi hi40 hfs hw ⊢
 have hwl:=MG A.length (m.fields.take i)
 rw[List.length_take]at hwl
 try refine A0 ?_
 refine A1 (A5 rfl rfl rfl (AN rfl (kn rfl) (kn rfl) CP) .nil) ?_
 try refine A0 ?_
 refine AO rfl (fun h=>?_) (fun h=>?_)
 ·have hlt:i<m.fields.length:=by have:=of_decide_eq_true h;omega
  obtain⟨x,hx⟩:∃ x,m.fields[i]?=some x:=⟨_,List.getElem?_eq_getElem hlt⟩
  obtain⟨hx1,hx2⟩:=hns x (List.mem_of_getElem? hx)
  try refine A0 ?_
  refine A8 ?_
  refine AJ ?_
  refine AB (BO rfl (kn rfl) (kn rfl) (by omega) hx Fld.dats_len sle_201 esz_201 rfl) ?_
  refine AB (BQ rfl (kn rfl) agg_210 sz_210) ?_
  refine AS 8 [.is (.string ⟨#[]⟩),.is (.string ⟨#[]⟩),.is (.string ⟨#[]⟩),.is (.string ⟨#[]⟩),.is (.int .i64 0),.is (.int .i64 0),.is (.int .i64 0),.is (.int .i64 0),.is (.int .i64 0),.is (.int .i64 0)] rfl rfl rfl rfl zr_210 (fun w D M V=>⟨rfl,fun j x v h1 h2=>AR _ h1 h2 rfl⟩) rfl rfl rfl rfl ?_
  refine AG ?_
  refine AI rfl rfl rfl (kn rfl) rfl (kn rfl) rfl rfl sz_210 ?_
  refine A6 ?_
  try refine A0 ?_
  refine A8 ?_
  refine AB (AT (ds:=[_,_,_,_,_,_,_,_,_]) 9 rfl (kn rfl) rfl rfl agg_204 sz_204 rfl) ?_
  refine AJ ?_
  refine AB (AT (ds:=[_,_,_,_,_,_,_,_,_,_]) 10 rfl (kn rfl) rfl rfl agg_210 sz_210 rfl) ?_
  refine AB (B9 (ds:=[_,_,_,_,_,_,_,_,_,_,_,_,_,_,_,_,_,_,_,_,_,_,_]) [(0,_),(1,_),(2,_)] rfl ⟨rfl,(kn rfl),⟨rfl,(kn rfl),⟨rfl,(kn rfl),trivial⟩⟩⟩ rfl pl_212 zr_212 (fun w D=>.cons (.cell _) (.cons (.cell _) (.cons (.cell _) (.cons (.cell _) (.cons (.cell _) (.cons (.cell _) (.cons (.cell _) (.cons (.cell _) (.cons (.cell _) (.cons (.cell _) (.cons (.cell _) (.cons (.cell _) (.cons (.cell _) (.cons (.cell _) (.cons (.cell _) (.cons (.cell _) (.cons (.cell _) (.cons (.cell _) (.cons (.cell _) (.cons (.cell _) (.cons (.cell _) (.cons (.cell _) (.cons (.cell _) (.nil _ _)))))))))))))))))))))))) rfl) ?_
  refine AS 9 [.is (.string ⟨#[]⟩),.is (.slice none 0 0),.is (.slice none 0 0),.is (.slice none 0 0),.is (.slice none 0 0),.is (.slice none 0 0),.is (.slice none 0 0),.is (.int .i64 0),.is (.int .i64 0),.is (.int .i64 0),.is (.string ⟨#[]⟩),.is (.string ⟨#[]⟩),.is (.string ⟨#[]⟩),.is (.string ⟨#[]⟩),.is (.int .i64 0),.is (.int .i64 0),.is (.int .i64 0),.is (.int .i64 0),.is (.int .i64 0),.is (.int .i64 0),.is (.int .i64 0),.is (.int .i64 0),.is (.bool false)] rfl rfl rfl rfl zr_212 (fun w D M V=>⟨rfl,fun j x v h1 h2=>AR _ h1 h2 rfl⟩) rfl rfl rfl rfl ?_
  refine AI rfl rfl rfl (kn rfl) rfl (kn rfl) rfl rfl sz_212 ?_
  refine A6 ?_
  try refine A0 ?_
  refine A8 ?_
  refine AB (DE rfl (kq rfl) rfl one_88) ?_
  refine AB (A3 rfl (kn rfl) off_71_0) ?_
  refine AB (A4 rfl (kn rfl) rfl rfl one_9) ?_
  refine AB (A3 rfl (kn rfl) off_210_1) ?_
  refine AB (A4 rfl (kn rfl) rfl rfl one_9) ?_
  refine AB (Q0G (ps:=[sP full,sP x.type]) rfl (by kernel_rfl) (Q2r er L hL _ full x.type hfl hx2) (kn rfl) rfl rfl ⟨kn rfl,kn rfl,trivial⟩ (Far.cells [.int .i64 (CK (BJ L full) x.type).1,.int .i64 (CK (BJ L full) x.type).2.1,.bool (CK (BJ L full) x.type).2.2])) ?_
  refine AJ ?_
  refine B3 ?_
  refine B3 ?_
  refine B3 ?_
  refine AB (A3 rfl (kn rfl) off_212_3) ?_
  refine C3 rfl rfl rfl (kn rfl) rfl (kn rfl) rfl rfl sz_3 rfl ?_
  refine AB (A3 rfl (kn rfl) off_212_4) ?_
  refine C3 rfl rfl rfl (kn rfl) rfl (kn rfl) rfl rfl sz_3 rfl ?_
  refine AB (A3 rfl (kn rfl) off_212_5) ?_
  refine C3 rfl rfl rfl (kn rfl) rfl (kn rfl) rfl rfl sz_4 rfl ?_
  refine A6 ?_
  try refine A0 ?_
  refine FA 9 9 rfl rfl rfl ?_
  refine A1 (A5 rfl rfl rfl (AY rfl (by kernel_rfl) (Q4J er m i x (CK (BJ L full) x.type).1 (CK (BJ L full) x.type).2.1 (CK (BJ L full) x.type).2.2 f1 hi f5 f6) ⟨(kn rfl),trivial⟩) (AE rfl rfl rfl rfl rfl .nil)) ?_
  try refine A0 ?_
  rcases Q0U er (BJ L full) m i x with⟨n,hr1,hr2⟩ | ⟨hr1,hr2⟩
  ·have hr:addM s m (msgM (BJ L) full m)=.error (n,x.line,x.col):=by
    unfold msgM
    rw[Q3a hx hw hr1]
    rfl
   rw[hr2,hr]
   try refine A0 ?_
   refine A1 (AA rfl rfl rfl rfl rfl (A5 rfl rfl rfl (AP rfl (kn rfl) rfl ifc_28) .nil)) ?_
   try refine A0 ?_
   refine BD ?_
   try refine A0 ?_
   refine A1 (AA rfl rfl rfl rfl rfl (AE rfl rfl rfl rfl rfl .nil)) ?_
   try refine A0 ?_
   exact BS (coB L nm ne) (coR (pcV (mb 1000)) A s.enums (s.later++wishesOf A.length (m.fields.take i))) ([]) rfl (.tmp (kn rfl) (.nil)) (Imp.refl _) ⟨s_b,trivial⟩ ⟨rfl,rfl,rfl,trivial⟩ trivial (⟨rfl,rfl,.inr ⟨n,x.line,x.col,A,s.enums,_,rfl,rfl,rfl⟩⟩)
  have hf40:=(JE hr1).1
  have hnext:=Q09 hx hw hr1
  have hfd:fs.flatMap fdD++fdD (MO x (CK (BJ L full) x.type).1 (CK (BJ L full) x.type).2.1)=(fs++[MO x (CK (BJ L full) x.type).1 (CK (BJ L full) x.type).2.1]).flatMap fdD:=by rw[List.flatMap_append];simp
  have hfl2:fs.length+1=(fs++[MO x (CK (BJ L full) x.type).1 (CK (BJ L full) x.type).2.1]).length:=by rw[List.length_append];rfl
  rw[hr2]
  try refine A0 ?_
  refine A1 (AA rfl rfl rfl rfl rfl (A5 rfl rfl rfl (AQ rfl (kn rfl) ifc_28) .nil)) ?_
  try refine A0 ?_
  refine C1 ?_
  try refine A0 ?_
  refine A1 (A5 rfl rfl rfl (A3 rfl (kn rfl) off_210_3) (A5 rfl rfl rfl (A4 rfl (kn rfl) rfl rfl one_9) (A5 rfl rfl rfl (AN rfl (kn rfl) (kn rfl) (RT (b:=[]))) .nil))) ?_
  try refine A0 ?_
  refine AO rfl (fun hk=>?_) (fun hk=>?_)
  ·have hkey:¬ x.key=[]:=by simpa using hk
   have hwn:=PD A.length hx
   rw[if_neg hkey]at hwn
   have hwd:(s.later++wishesOf A.length (m.fields.take i)).flatMap (wiD (pcV (mb 1000)))++wiD (pcV (mb 1000)) ⟨A.length,x⟩=(s.later++wishesOf A.length (m.fields.take (i+1))).flatMap (wiD (pcV (mb 1000))):=by rw[hwn,<- List.append_assoc,List.flatMap_append];simp
   have hwl2:(s.later++wishesOf A.length (m.fields.take i)).length+1=(s.later++wishesOf A.length (m.fields.take (i+1))).length:=by rw[hwn,<- List.append_assoc];simp only[List.length_append,List.length_cons,List.length_nil]
   have hwb:(s.later++wishesOf A.length (m.fields.take i)).length<=1000040:=by rw[List.length_append];omega
   refine FA 8 8 rfl rfl rfl ?_
   try refine A0 ?_
   refine IR 7 mixed (by kernel_rfl) rfl rfl (A5 rfl rfl rfl (DE rfl (kq rfl) rfl one_88) (A5 rfl rfl rfl (DE rfl (kq rfl) rfl one_88) (A5 rfl rfl rfl (AL rfl (kn rfl)) (A5 rfl rfl rfl (A3 rfl (kn rfl) off_95_4) (A5 rfl rfl rfl (A4 rfl (kn rfl) rfl rfl one_93) (A5 rfl rfl rfl (L6 (ds:=[.ptr 88 [.cell (pcV (mb 1000))],.ptr 3 [.cell (.int .i64 (A.length:Int))],.ptr 210 x.dats]) rfl ⟨kn rfl,kn rfl,kn rfl,trivial⟩) (A5 rfl rfl rfl (AC (ds:=[_]) [(0,_)] rfl ⟨rfl,(kn rfl),trivial⟩ rfl sl_93 sz_142 zr_142 (fun w D=>.cons (.cell _) (.nil _ _)) rfl rfl rfl rfl rfl) .nil))))))) rfl ?_ ?_
   ·refine BV rfl rfl rfl rfl (kn rfl) rfl (kn rfl) sl_93 ap_93 rfl rfl (by omega) (by omega) ?_
    refine IU hwl2 hwd ?_
    refine AB (AL rfl (kn rfl)) ?_
    refine AB (A3 rfl (kn rfl) off_95_4) ?_
    refine B6 rfl rfl rfl (kn rfl) rfl (kn rfl) rfl rfl sz_93 rfl ?_
    refine A6 ?_
    try refine A0 ?_
    try refine A0 ?_
    refine DP 4 mixed (by kernel_rfl) (A5 rfl rfl rfl (A3 rfl (kn rfl) off_71_1) (A5 rfl rfl rfl (A4 rfl (kn rfl) rfl rfl one_69) (A5 rfl rfl rfl (AY rfl (by kernel_rfl) (SG er m i x (CK (BJ L full) x.type).1 (CK (BJ L full) x.type).2.1 (CK (BJ L full) x.type).2.2 hx1) ⟨(kn rfl),trivial⟩) (A5 rfl rfl rfl (AC (ds:=[_,_,_,_,_,_,_,_,_]) [(0,_)] rfl ⟨rfl,(kn rfl),trivial⟩ rfl sl_69 sz_61 zr_61 (fun w D=>.cons (.cell _) (.cons (.cell _) (.cons (.cell _) (.cons (.cell _) (.cons (.cell _) (.cons (.cell _) (.cons (.cell _) (.cons (.cell _) (.cons (.cell _) (.nil _ _)))))))))) rfl rfl rfl rfl rfl) .nil)))) ?_
    refine BV rfl rfl rfl rfl (kn rfl) rfl (kn rfl) sl_69 ap_69 rfl rfl (by omega) (by omega) ?_
    refine IU hfl2 hfd ?_
    refine AB (A3 rfl (kn rfl) off_71_1) ?_
    refine B6 rfl rfl rfl (kn rfl) rfl (kn rfl) rfl rfl sz_69 rfl ?_
    refine A6 ?_
    try refine A0 ?_
    refine A1 (A5 rfl rfl rfl (AN rfl (kn rfl) (kn rfl) (BF (by first | omega | (dsimp only;omega)))) (AA rfl rfl rfl rfl rfl .nil)) ?_
    try refine A0 ?_
    refine BB ⟨(i+1,fs++[MO x (CK (BJ L full) x.type).1 (CK (BJ L full) x.type).2.1]),by dsimp only;omega,by dsimp only;omega,by dsimp only;omega,hnext⟩ (by dsimp only;omega) (fun K=>B8 ⟨s_t,s_t,s_t,s_t,s_t,s_t,s_t,trivial⟩ ⟨s_b,s_b,s_b,trivial⟩ ⟨rfl,rfl,rfl,rfl,trivial⟩)
   ·refine BV rfl rfl rfl rfl (kn rfl) rfl (kn rfl) sl_93 ap_93 rfl rfl (by omega) (by omega) ?_
    refine IU hwl2 hwd ?_
    refine AB (DE rfl (kq rfl) rfl one_88) ?_
    refine AB (AL rfl (kn rfl)) ?_
    refine AB (A3 rfl (kn rfl) off_95_4) ?_
    refine B6 rfl rfl rfl (kn rfl) rfl (kn rfl) rfl rfl sz_93 rfl ?_
    refine A6 ?_
    try refine A0 ?_
    try refine A0 ?_
    refine DP 4 mixed (by kernel_rfl) (A5 rfl rfl rfl (A3 rfl (kn rfl) off_71_1) (A5 rfl rfl rfl (A4 rfl (kn rfl) rfl rfl one_69) (A5 rfl rfl rfl (AY rfl (by kernel_rfl) (SG er m i x (CK (BJ L full) x.type).1 (CK (BJ L full) x.type).2.1 (CK (BJ L full) x.type).2.2 hx1) ⟨(kn rfl),trivial⟩) (A5 rfl rfl rfl (AC (ds:=[_,_,_,_,_,_,_,_,_]) [(0,_)] rfl ⟨rfl,(kn rfl),trivial⟩ rfl sl_69 sz_61 zr_61 (fun w D=>.cons (.cell _) (.cons (.cell _) (.cons (.cell _) (.cons (.cell _) (.cons (.cell _) (.cons (.cell _) (.cons (.cell _) (.cons (.cell _) (.cons (.cell _) (.nil _ _)))))))))) rfl rfl rfl rfl rfl) .nil)))) ?_
    refine BV rfl rfl rfl rfl (kn rfl) rfl (kn rfl) sl_69 ap_69 rfl rfl (by omega) (by omega) ?_
    refine IU hfl2 hfd ?_
    refine AB (A3 rfl (kn rfl) off_71_1) ?_
    refine B6 rfl rfl rfl (kn rfl) rfl (kn rfl) rfl rfl sz_69 rfl ?_
    refine A6 ?_
    try refine A0 ?_
    refine A1 (A5 rfl rfl rfl (AN rfl (kn rfl) (kn rfl) (BF (by first | omega | (dsimp only;omega)))) (AA rfl rfl rfl rfl rfl .nil)) ?_
    try refine A0 ?_
    refine BB ⟨(i+1,fs++[MO x (CK (BJ L full) x.type).1 (CK (BJ L full) x.type).2.1]),by dsimp only;omega,by dsimp only;omega,by dsimp only;omega,hnext⟩ (by dsimp only;omega) (fun K=>B8 ⟨s_t,s_t,s_t,s_t,s_t,s_t,s_t,trivial⟩ ⟨s_b,s_b,s_b,trivial⟩ ⟨rfl,rfl,rfl,rfl,trivial⟩)
  have hkey:x.key=[]:=by simpa using hk
  have hwn:=PD A.length hx
  rw[if_pos hkey,List.append_nil]at hwn
  try refine A0 ?_
  refine DP 4 mixed (by kernel_rfl) (A5 rfl rfl rfl (A3 rfl (kn rfl) off_71_1) (A5 rfl rfl rfl (A4 rfl (kn rfl) rfl rfl one_69) (A5 rfl rfl rfl (AY rfl (by kernel_rfl) (SG er m i x (CK (BJ L full) x.type).1 (CK (BJ L full) x.type).2.1 (CK (BJ L full) x.type).2.2 hx1) ⟨(kn rfl),trivial⟩) (A5 rfl rfl rfl (AC (ds:=[_,_,_,_,_,_,_,_,_]) [(0,_)] rfl ⟨rfl,(kn rfl),trivial⟩ rfl sl_69 sz_61 zr_61 (fun w D=>.cons (.cell _) (.cons (.cell _) (.cons (.cell _) (.cons (.cell _) (.cons (.cell _) (.cons (.cell _) (.cons (.cell _) (.cons (.cell _) (.cons (.cell _) (.nil _ _)))))))))) rfl rfl rfl rfl rfl) .nil)))) ?_
  refine BV rfl rfl rfl rfl (kn rfl) rfl (kn rfl) sl_69 ap_69 rfl rfl (by omega) (by omega) ?_
  refine IU hfl2 hfd ?_
  refine AB (A3 rfl (kn rfl) off_71_1) ?_
  refine B6 rfl rfl rfl (kn rfl) rfl (kn rfl) rfl rfl sz_69 rfl ?_
  refine A6 ?_
  try refine A0 ?_
  refine A1 (A5 rfl rfl rfl (AN rfl (kn rfl) (kn rfl) (BF (by first | omega | (dsimp only;omega)))) (AA rfl rfl rfl rfl rfl .nil)) ?_
  try refine A0 ?_
  refine BB ⟨(i+1,fs++[MO x (CK (BJ L full) x.type).1 (CK (BJ L full) x.type).2.1]),by dsimp only;omega,by dsimp only;omega,by dsimp only;omega,hnext⟩ (by dsimp only;omega) (fun K=>B8 ⟨s_t,s_t,s_t,s_t,s_t,s_t,s_t,trivial⟩ ⟨s_b,s_b,s_b,trivial⟩ ⟨rfl,rfl,rfl,by rw[hwn];rfl,trivial⟩)
 obtain rfl:i=m.fields.length:=by have:=of_decide_eq_false h;omega
 have hok:=Q2L hw
 obtain⟨u1,u2,u3,u4⟩:=IC hok
 rw[List.take_length]
 try refine A0 ?_
 refine A1 (A5 rfl rfl rfl (AT (ds:=[_,_,_,_,_,_,_,_,_]) 9 rfl (kn rfl) rfl rfl agg_204 sz_204 rfl) (A5 rfl rfl rfl (AY rfl (by kernel_rfl) (Q4C _ m f1 f2) ⟨(kn rfl),trivial⟩) (A5 rfl rfl rfl (DL rfl (kn rfl)) .nil))) ?_
 try refine A0 ?_
 refine AO rfl (fun ha=>?_) (fun ha=>?_)
 ·have hr:addM s m (msgM (BJ L) full m)=.error (11,m.line,m.col):=by
   unfold msgM
   rw[hok]
   dsimp only
   rw[if_neg (by simpa using ha)]
   rfl
  rw[hr]
  try refine A0 ?_
  refine A1 (A5 rfl rfl rfl (A3 rfl (kn rfl) off_204_7) (A5 rfl rfl rfl (A4 rfl (kn rfl) rfl rfl one_3) (A5 rfl rfl rfl (A3 rfl (kn rfl) off_204_8) (A5 rfl rfl rfl (A4 rfl (kn rfl) rfl rfl one_3) (A5 rfl rfl rfl (C4 rfl (kn rfl) (Q6z er) one_28) (A5 rfl rfl rfl (AY rfl (by kernel_rfl) (G2 _ m.line m.col (er 11)) ⟨(kn rfl),⟨(kn rfl),⟨(kn rfl),trivial⟩⟩⟩) (AE rfl rfl rfl rfl rfl .nil))))))) ?_
  try refine A0 ?_
  exact BS (coB L nm ne) (coR (pcV (mb 1000)) A s.enums (s.later++wishesOf A.length m.fields)) ([]) rfl (.tmp (kn rfl) (.nil)) (Imp.refl _) ⟨s_b,trivial⟩ ⟨rfl,rfl,rfl,trivial⟩ trivial (⟨rfl,rfl,.inr ⟨11,m.line,m.col,A,s.enums,_,rfl,rfl,rfl⟩⟩)
 have hr:addM s m (msgM (BJ L) full m)=.ok { s with msgs:=s.msgs++[⟨full,CU fs,m.oneofs⟩],later:=s.later++wishesOf s.msgs.length m.fields }:=by
  unfold msgM
  rw[hok]
  dsimp only
  rw[if_pos (by simpa using ha)]
  rfl
 rw[hr]
 try refine A0 ?_
 refine BI 6 2 1012 9 1 rfl rfl rfl rfl rfl ?_
 refine A1 (A5 rfl rfl rfl (A3 rfl (kn rfl) off_204_2) (A5 rfl rfl rfl (A4 rfl (kn rfl) rfl rfl one_54) (A5 rfl rfl rfl (CI rfl (kn rfl) sle_54) (AA rfl rfl rfl rfl rfl .nil)))) ?_
 try refine A0 ?_
 refine CB (ι:={ i:Nat // i<=m.oneofs.length })
  (fun i=>[(2,.part (.one (.ptr 88 [.cell (pcV (mb 1000))]))),(6,.box 6 0),(86,.part (.one (.row 1 m.oneofs.length (m.oneofs.flatMap textDats)))),(87,.is (.int .i64 (m.oneofs.length:Int))),(88,.is (.int .i64 (i.1:Int)))])
  (fun _=>[(6,⟨71,[.is (.string (str full)),.own 1011,.own 1012]⟩),(1000,⟨95,Q6A L nm ne⟩)])
  (fun i=>[(1012,⟨9,1,(m.oneofs.take i.1).length,(m.oneofs.take i.1).flatMap textDats,false⟩),(1011,⟨61,9,fs.length,fs.flatMap fdD,false⟩),(1001,⟨2000000+71,3,A.length,A.flatMap mgO,false⟩),(1002,⟨74,3,s.enums.length,s.enums.flatMap enD,false⟩),(1003,⟨142,1,(s.later++wishesOf A.length m.fields).length,(s.later++wishesOf A.length m.fields).flatMap (wiD (pcV (mb 1000))),false⟩)]) (fun i=>m.oneofs.length-i.1)
  ⟨0,by omega⟩
  (fun K=>B8 ⟨s_t,s_t,s_t,s_t,s_t,trivial⟩ ⟨s_b,s_b,trivial⟩ ⟨rfl,rfl,rfl,rfl,rfl,trivial⟩) ?_
 rintro⟨j,hj⟩
 dsimp only at hj ⊢
 have htl:(m.oneofs.take j).length=j:=by rw[List.length_take];omega
 try refine A0 ?_
 refine A1 (A5 rfl rfl rfl (AN rfl (kn rfl) (kn rfl) CP) .nil) ?_
 try refine A0 ?_
 refine AO rfl (fun h=>?_) (fun h=>?_)
 ·have hlt:j<m.oneofs.length:=by have:=of_decide_eq_true h;omega
  obtain⟨x,hx⟩:∃ x,m.oneofs[j]?=some x:=⟨_,List.getElem?_eq_getElem hlt⟩
  have hd1:(m.oneofs.take j).flatMap textDats++textDats x=(m.oneofs.take (j+1)).flatMap textDats:=by rw[List.take_add_one,hx,Option.toList_some,List.flatMap_append];simp
  have hl1:(m.oneofs.take j).length+1=(m.oneofs.take (j+1)).length:=by rw[List.length_take,List.length_take];omega
  try refine A0 ?_
  refine A1 (A5 rfl rfl rfl (BO rfl (kn rfl) (kn rfl) (by omega) hx DT sle_54 esz_54 rfl) (A5 rfl rfl rfl (AD rfl (kn rfl) one_9) (AE rfl rfl rfl rfl rfl .nil))) ?_
  try refine A0 ?_
  refine DP 5 mixed (by kernel_rfl) (A5 rfl rfl rfl (A3 rfl (kn rfl) off_71_2) (A5 rfl rfl rfl (A4 rfl (kn rfl) rfl rfl one_54) (AA rfl rfl rfl rfl rfl (A5 rfl rfl rfl (AY rfl (by kernel_rfl) (K4 _ x (hos x (List.mem_of_getElem? hx))) ⟨(kn rfl),trivial⟩) (A5 rfl rfl rfl (AC (ds:=[_]) [(0,_)] rfl ⟨rfl,(kn rfl),trivial⟩ rfl sl_54 sz_9 zr_9 (fun w D=>.cons (.cell _) (.nil _ _)) rfl rfl rfl rfl rfl) .nil))))) ?_
  refine BV rfl rfl rfl rfl (kn rfl) rfl (kn rfl) sl_54 ap_54 rfl rfl (by omega) (by omega) ?_
  refine IU hl1 hd1 ?_
  refine AB (A3 rfl (kn rfl) off_71_2) ?_
  refine B6 rfl rfl rfl (kn rfl) rfl (kn rfl) rfl rfl sz_54 rfl ?_
  refine A6 ?_
  try refine A0 ?_
  refine A1 (A5 rfl rfl rfl (AN rfl (kn rfl) (kn rfl) (BF (by first | omega | (dsimp only;omega)))) (AA rfl rfl rfl rfl rfl .nil)) ?_
  try refine A0 ?_
  refine BB ⟨j+1,by omega⟩ (by dsimp only;omega) (fun K=>B8 ⟨s_t,s_t,s_t,s_t,s_t,trivial⟩ ⟨s_b,s_b,trivial⟩ ⟨rfl,rfl,rfl,rfl,rfl,trivial⟩)
 obtain rfl:j=m.oneofs.length:=by have:=of_decide_eq_false h;omega
 rw[List.take_length]
 try refine A0 ?_
 refine A8 ?_
 refine AB (A3 rfl (kn rfl) off_71_1) ?_
 refine AB (A4 rfl (kn rfl) rfl rfl one_69) ?_
 refine Q7o rfl rfl rfl rfl (kn rfl) rfl u3 (by omega) ?_
 refine A6 ?_
 try refine A0 ?_
 refine BC 6 2 1012 rfl rfl rfl rfl rfl ?_
 refine S1 900 1011 rfl rfl fun v0 hv0=>?_
 refine NQ (s:=900) (v0:=v0) 6 1 rfl rfl rfl rfl ?_
 have hset:=Q2N A full fs m.oneofs v0
 have hlen:A.length+1=(A++[((⟨full,CU fs,m.oneofs⟩:Mg),v0)]).length:=by rw[List.length_append];rfl
 have hA2:(A++[((⟨full,CU fs,m.oneofs⟩:Mg),v0)]).map (·.1)=s.msgs++[⟨full,CU fs,m.oneofs⟩]:=by rw[List.map_append,hA];rfl
 refine IR 8 mixed (by kernel_rfl) rfl rfl (A5 rfl rfl rfl (DE rfl (kq rfl) rfl one_88) (A5 rfl rfl rfl (DE rfl (kq rfl) rfl one_88) (A5 rfl rfl rfl (AL rfl (kn rfl)) (A5 rfl rfl rfl (A3 rfl (kn rfl) off_95_3) (A5 rfl rfl rfl (A3 rfl (kn rfl) off_26_0) (A5 rfl rfl rfl (A4 rfl (kn rfl) rfl rfl one_23) (A5 rfl rfl rfl (AT (ds:=[_,_,_]) 3 rfl (kn rfl) rfl rfl agg_71 sz_71 rfl) (A5 rfl rfl rfl (AC (ds:=[_,_,_]) [(0,_)] rfl ⟨rfl,(kn rfl),trivial⟩ rfl sl_23 sz_71 zr_71 (fun w D=>.cons (.cell _) (.cons (.cell _) (.cons (.cell _) (.nil _ _)))) rfl rfl rfl rfl rfl) .nil)))))))) rfl ?_ ?_
 ·refine U8 rfl rfl rfl rfl (kn rfl) rfl (kn rfl) Nat.one_pos sl_23 ap_23 rfl (by show(_&&(Value.oneCell' v0&&_))=true;rw[hv0];rfl) (by omega) (by omega) ?_
  refine AB (AL rfl (kn rfl)) ?_
  refine AB (A3 rfl (kn rfl) off_95_3) ?_
  refine AB (A3 rfl (kn rfl) off_26_0) ?_
  refine B6 rfl rfl rfl (kn rfl) rfl (kn rfl) rfl rfl sz_23 rfl ?_
  refine A6 ?_
  try refine A0 ?_
  try refine A0 ?_
  refine QG (A.length*3+1) (s:=900) (r:=1001) (q:=1011) (v0:=v0) rfl rfl rfl (XW A full v0 _) rfl ?_
  refine IU hlen hset ?_
  refine A1 (AE rfl rfl rfl rfl rfl .nil) ?_
  try refine A0 ?_
  exact BS (coB L nm ne) (coR (pcV (mb 1000)) (A++[((⟨full,CU fs,m.oneofs⟩:Mg),v0)]) s.enums (s.later++wishesOf s.msgs.length m.fields)) ([]) rfl (.tmp (kn rfl) (.nil)) (Imp.refl _) ⟨s_b,trivial⟩ ⟨rfl,rfl,by rw[hAl];rfl,trivial⟩ trivial (⟨rfl,rfl,.inl ⟨_,_,rfl,rfl,hA2,rfl⟩⟩)
 ·refine U8 rfl rfl rfl rfl (kn rfl) rfl (kn rfl) Nat.one_pos sl_23 ap_23 rfl (by show(_&&(Value.oneCell' v0&&_))=true;rw[hv0];rfl) (by omega) (by omega) ?_
  refine AB (DE rfl (kq rfl) rfl one_88) ?_
  refine AB (AL rfl (kn rfl)) ?_
  refine AB (A3 rfl (kn rfl) off_95_3) ?_
  refine AB (A3 rfl (kn rfl) off_26_0) ?_
  refine B6 rfl rfl rfl (kn rfl) rfl (kn rfl) rfl rfl sz_23 rfl ?_
  refine A6 ?_
  try refine A0 ?_
  try refine A0 ?_
  refine QG (A.length*3+1) (s:=900) (r:=1001) (q:=1011) (v0:=v0) rfl rfl rfl (XW A full v0 _) rfl ?_
  refine IU hlen hset ?_
  refine A1 (AE rfl rfl rfl rfl rfl .nil) ?_
  try refine A0 ?_
  exact BS (coB L nm ne) (coR (pcV (mb 1000)) (A++[((⟨full,CU fs,m.oneofs⟩:Mg),v0)]) s.enums (s.later++wishesOf s.msgs.length m.fields)) ([]) rfl (.tmp (kn rfl) (.nil)) (Imp.refl _) ⟨s_b,trivial⟩ ⟨rfl,rfl,by rw[hAl];rfl,trivial⟩ trivial (⟨rfl,rfl,.inl ⟨_,_,rfl,rfl,hA2,rfl⟩⟩)
section
section
variable{P:Program}{cx:Cx}{T:TL}{B:BL}{R:RL}{o:Oper}
theorem Upon.imp{M:Nat->Nat}{V:Nat->Value}{w:World}{y y':IV}(hi:∀ (w:World) (D:Nat->Prop) (v:Value),VR w D M V y v->VR w D M V y' v){r:Result Next}(h:Upon P cx B R M V w y r):Upon P cx B R M V w y' r:=by
 cases r with
 | halt x w'=>exact h
 | ok n w'=>
  cases n with
  | value v=>exact⟨h.1,hi _ _ _ h.2⟩
  | skip=>exact⟨h.1,hi _ _ _ h.2⟩
  | enter f args=>exact⟨h.1,h.2.mono fun e w'' ⟨v,h1,h2,h3⟩=>⟨v,h1,h2,hi _ _ _ h3⟩⟩
  | _=>exact h
abbrev atP(r:Nat)(v0:Value)(j:Nat):IV:=.via r fun a u=>AtV j a u/\a=v0
theorem LStep.pin{t r:Nat}{x y y':IV}{p:Value->Value->Prop}{v0:Value}(hm:.tmp t∈o.op.operands)(hx:lk t T=some (.via r fun a u=>p a u/\a=v0))(hxi:∀ (w:World) (D:Nat->Prop) (M:Nat->Nat) (V:Nat->Value) (u:Value),p (V r) u->VR w D M V x u)(h:LStep P cx B R o ((t,x)::T) y)
  (hy:∀ (w:World) (D:Nat->Prop) (M:Nat->Nat) (V:Nat->Value) (u:Value),V r=v0->VR w D M V y u->VR w D M V y' u):LStep P cx B R o T y':=fun M V w a hh ht=>by
 have h1:p (V r) (a.tmps.getD t undef)/\V r=v0:=ht t _ hm hx
 exact(h M V w a hh fun s z hs hz=>by
  rcases AK hz with⟨rfl,rfl⟩ | ⟨_,hz⟩
  ·exact hxi _ _ _ _ _ h1.1
  ·exact ht s z hs hz).imp fun w D v hv=>hy w D M V v h1.2 hv
theorem Q0V{x i:Nat}{t:TypeId}{r ty k n:Nat}{ds:List Dat}{v0:Value}{z:Int}{kk:IntKind}(ho:o.op=.indexAddr t (.tmp x) (.tmp i))(hx:lk x T=some (atv r v0))(hr:lk r R=some ⟨ty,k,n,ds,false⟩)(hi:lk i T=some (.is (.int kk z)))(hne:Nat.beq x i=false)(hz:0<=z/\z<(n:Int))(ht:P.underlying t=some (.slice (P.elem t)))(hs:sizeT P (P.elem t)=some k)(hty:Nat.blt ty 1000000=true:=by rfl):LStep P cx B R o T (atP r v0 (z.toNat*k)):=
 LStep.pin (t:=x) (x:=.own r) (p:=fun a u=>u=a) (by simp[ho,Op.operands]) hx (fun _ _ _ _ _ h=>h) (M7 (z:=z) (kk:=kk) ho (kn (B5 _ _ _)) hr (kn ((BG _ _ (fun e=>by subst e;simp at hne)).trans hi)) hz ht hs hty) (fun _ _ _ _ _ e h=>⟨h,e⟩)
theorem YE{x:Nat}{t:TypeId}{f off r j:Nat}{v0:Value}(ho:o.op=.fieldAddr t (.tmp x) f)(hx:lk x T=some (atP r v0 j))(h:BP P t f=some off):LStep P cx B R o T (atP r v0 (j+off)):=
 LStep.pin (t:=x) (x:=.via r (AtV j)) (p:=AtV j) (by simp[ho,Op.operands]) hx (fun _ _ _ _ _ h=>h) (KE ho (kn (B5 _ _ _)) h) (fun _ _ _ _ _ e h=>⟨h,e⟩)
theorem XB{x:Nat}{t:TypeId}{r ty k n j:Nat}{ds:List Dat}{v v0:Value}(ho:o.op=.load t (.tmp x))(hx:lk x T=some (atP r v0 j))(hr:lk r R=some ⟨ty,k,n,ds,false⟩)(hj:ds[j]?=some (.cell v))(ht:oneT P t=true)(hty:Nat.blt ty 1000000=true:=by rfl):LStep P cx B R o T (Q8g r v0 v):=
 LStep.pin (t:=x) (x:=.via r (AtV j)) (p:=AtV j) (by simp[ho,Op.operands]) hx (fun _ _ _ _ _ h=>h) (P6 ho (kn (B5 _ _ _)) hr hj ht hty) (fun _ _ _ _ _ e h=>⟨Lies.cell_eq h,e⟩)
theorem YJ{x:Operand}{t:TypeId}{b off r:Nat}{bx:Bx}{v2:Value}(ho:o.op=.load t x)(hx:Kn T x (.box b off))(hb:lk b B=some bx)(h1:bx.cs[off]?=some (.own r))(h2:bx.cs[off+1]?=some (.is v2))(ht:aggT P t=true)(hs:sizeT P t=some 2):LStep P cx B R o T (.via r fun a u=>u=.agg #[a,v2]):=LStep.same fun M V w a hh hk=>by
 have hxv:a.eval x=.pointer (some ⟨M b,off,none⟩):=hk x _ (by simp[ho,Op.operands]) hx
 obtain⟨_,cs,a1,a2⟩:=hh.box b bx hb
 have hl1:off+1<bx.cs.length:=(List.getElem?_eq_some_iff.1 h2).1
 have hl2:off+1<cs.length:=by rw[<- a2.1];exact hl1
 have c1:cs[off]?=some (V r):=by
  have e:cs[off]?=some cs[off]:=List.getElem?_eq_getElem (by omega)
  have:cs[off]=V r:=(a2.2 off _ _ h1 e).1
  rw[e,this]
 have c2:cs[off+1]?=some v2:=by
  have e:cs[off+1]?=some cs[off+1]:=List.getElem?_eq_getElem hl2
  have:cs[off+1]=v2:=Lies.cell_eq (a2.2 (off+1) _ _ h2 e).1
  rw[e,this]
 have h5:=EY (P:=P) w (M b) off [V r,v2] (fun i v hv=>by
  match i,hv with
  | 0,hv=>
   obtain rfl:=Option.some.inj hv
   exact(a1.cell (off+0)).trans c1
  | 1,hv=>
   obtain rfl:=Option.some.inj hv
   exact(a1.cell (off+1)).trans c2
  | _+2,hv=>simp at hv) t ht hs
 exact⟨.agg #[V r,v2],by simp[execOp,ho,hxv,Instr.loadAt,Instr.sureAddr,h5],rfl⟩
theorem WZ{w:World}{D:Nat->Prop}{k n j:Nat}{ds:List Dat}{v v0:Value}{d:Dat}(h:Lies w D (.row k n ds) v)(hj:ds[j]?=some (.cell v0))(hd:Lies w D d v0):Lies w D (.row k n (ds.set j d)) v:=by
 cases h with
 | none=>cases hj
 | row k n b o c ds X h0 h1 h2 h3 h4 h5=>
  refine .row k n b o c _ X h0 h1 (by simpa using h2) h3 (fun i hi=>h4 i (by simpa using hi)) fun i e he=>?_
  rw[List.getElem?_set]at he
  split at he
  ·rename_i hij
   subst hij
   split at he
   ·obtain rfl:=Option.some.inj he
    have:=(h5 _ _ hj).cell_eq
    rw[this]
    exact hd
   ·cases he
  ·exact h5 i e he
theorem EGp.any{gls:List (Nat×List Value)}{f:FuncId}{xs:List IV}{p:List (Nat×Value)}{b:Nat}{Y:Nat->IV->BL->RL->List (Nat×Value)->Prop}(h:∀ g,EGp P gls f xs B R p (fun M=>M b=g) (Y g)):EGp P gls f xs B R p (fun _=>True) (fun y B1 R1 p1=>∃ g,Y g y B1 R1 p1):=fun w D M V vs n hh hv _ hp=>
 (h (M b) w D M V vs n hh hv rfl hp).mono fun e w' ⟨v,y,B1,R1,p1,M1,V1,a1,a2,a3,a4,a5⟩=>⟨v,y,B1,R1,p1,M1,V1,a1,⟨_,a2⟩,a3,a4,a5⟩
end
end
end Go.Proofs.YtgcphgdkddihcaaGreatDoor
