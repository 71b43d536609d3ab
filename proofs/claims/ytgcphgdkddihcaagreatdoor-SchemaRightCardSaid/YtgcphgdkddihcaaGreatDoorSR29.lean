/- Part 29. Conditions: as each theorem says. -/
import Derived.Test.YtgcphgdkddihcaaGreatDoorSR28
import Derived.Test.YtgcphgdkddihcaaGreatDoorProg
import Derived.Laws.RangeString
import Derived.Laws.Runes
import Derived.Deep.LoopGhost
import Derived.Lib.IndexAny
import Derived.Deep.QuietTactic
import Derived.BigQuiet
import Derived.WalkMore
set_option maxRecDepth 100000
namespace Go.Proofs.YtgcphgdkddihcaaGreatDoor
open Go.RowKit
theorem HL{p:UInt8->Bool}:∀ {l:List UInt8},l.all p=true->CL p l=l.length
 | [],_=>rfl
 | b::l,h=>by
  simp only[List.all_cons,Bool.and_eq_true]at h
  rw[UO h.1,HL h.2,List.length_cons]
theorem H3{p:UInt8->Bool}:∀ {l:List UInt8},l.all p=false->CL p l<l.length
 | [],h=>by simp at h
 | b::l,h=>by
  unfold CL
  split
  ·rename_i hb
   have:l.all p=false:=by
    simp only[List.all_cons,hb,Bool.true_and]at h
    exact h
   have:=H3 this
   simp only[List.length_cons]
   omega
  ·simp
theorem V8(base:Nat)(l:List UInt8)(b:UInt8):FS base (l++[b])=FS base l*base+D6 b:=by simp[FS]
theorem U5(base:Nat)(hb:1<=base)(l:List UInt8):∀ m:List UInt8,FS base l<=FS base (l++m)
 | []=>by simp
 | b::m=>by
  have h1:=U5 base hb (l++[b]) m
  rw[List.append_assoc,List.singleton_append]at h1
  have h2:=V8 base l b
  have h3:FS base l<=FS base l*base:=Nat.le_mul_of_pos_right _ hb
  omega
theorem Q2t{l:List UInt8}{j:Nat}{b:UInt8}(h:l[j]?=some b):l.take (j+1)=l.take j++[b]:=by
 rw[List.take_add_one,h]
 rfl
theorem PS(base:Nat)(hb:1<=base){l:List UInt8}{j:Nat}{b:UInt8}(h:l[j]?=some b):FS base (l.take (j+1))=FS base (l.take j)*base+D6 b/\FS base (l.take (j+1))<=FS base l:=by
 refine⟨by rw[Q2t h,V8],?_⟩
 have:=U5 base hb (l.take (j+1)) (l.drop (j+1))
 rwa [List.take_append_drop]at this
def Q0Y(w:World)(A:Nat->Addr)(r:Nat×Nat)(e:Ending)(w':World):Prop:=
 e=.returned (.tuple #[.int .i64 (r.1:Int),FV A r.2])/\Below w.heap.size w w'
theorem UH(base:Nat):lnb base []=(0,9):=by simp[lnb]
theorem Q5{base:Nat}{l:List UInt8}(h:(l.all fun b=>decide (D6 b<base))=false):lnb base l=(0,9):=by
 unfold lnb;rw[if_pos (.inr h)]
theorem N9{base:Nat}{l:List UInt8}(hn:l≠[])(h:(l.all fun b=>decide (D6 b<base))=true)(ho:2147483647<FS base l):lnb base l=(0,1):=by
 unfold lnb;rw[if_neg (by simp[hn,h]),if_pos ho]
theorem WO{base:Nat}{l:List UInt8}(hn:l≠[])(h:(l.all fun b=>decide (D6 b<base))=true)(ho:¬ 2147483647<FS base l):lnb base l=(FS base l,0):=by
 unfold lnb;rw[if_neg (by simp[hn,h]),if_neg ho]
set_option maxHeartbeats 1000000 in
theorem Q34(w:World)(A:Nat->Addr)(m:Int)(hL:Lx w A m)(l:List UInt8)(hl:l.length<1000000000)(hx:decide (l.take 2=[48,120])=true)(h2:2<=l.length):
  Calls Tryz.prog 123 #[.string (str l)] w (Q0Y w A (lnb 16 (l.drop 2))):=by
 have HX:=Lib.hid (BR w l 48 120)
 rw[hx]at HX
 clear hx
 have hfr:∀ u,(Instr.slice 9 (.string (str l)) (some (.int .i64 2)) none none).run Tryz.prog u=.ok (.string (str (l.drop 2))) u:=IT l 2 h2
 obtain⟨ds,hds⟩:∃ ds,ds=l.drop 2:=⟨_,rfl⟩
 rw[<- hds]at hfr
 have hdl:ds.length<=l.length:=by rw[hds];rw[List.length_drop];omega
 rw[<- hds]
 clear hds
 have hform:=hL.form
 have hdz:(str ds).size=ds.length:=BM ds
 have hn:=CH
 by_cases h0:ds=[]
 ·subst h0
  rw[UH]
  go_enter Tryz.func123,Tryz.ntmps123
  go_wp2_with fail
  refine HX.out.mono ?_
  rintro e w ⟨rfl,rfl⟩
  go_wp2_with fail
  go_quiet (fail)
  obtain⟨w1,hw1⟩:∃ w1,w1=w.drewN nq:=⟨_,rfl⟩
  have hL1:Lx w1 A m:=hw1▸hL.drewN nq
  have hB1:Below w.heap.size w w1:=hw1▸AV (Below.refl _ _) nq
  have hform1:=hL1.form
  rw[<- hw1]
  clear hw1
  go_wp2_with fail
  go_quiet (fail)
  go_wp2_with fail
  go_ret2
  exact⟨rfl,AV hB1 _⟩
 have hem:ds.isEmpty=false:=by
  cases ds with
  | nil=>exact absurd rfl h0
  | cons x t=>rfl
 by_cases hall:(ds.all fun b=>decide (D6 b<16))=false
 ·rw[Q5 hall]
  have hless:=H3 hall
  have HS:=Lib.hid (fun(u:World) a=>DO u ds a 16 (by omega))
  generalize CL (fun b=>decide (D6 b<16)) ds=k at *
  have hlt:(k:Int)<(ds.length:Int):=by omega
  clear hall
  go_enter Tryz.func123,Tryz.ntmps123
  go_wp2_with fail
  refine HX.out.mono ?_
  rintro e w ⟨rfl,rfl⟩
  go_wp2_with fail
  go_quiet (fail)
  obtain⟨w1,hw1⟩:∃ w1,w1=w.drewN nq:=⟨_,rfl⟩
  have hL1:Lx w1 A m:=hw1▸hL.drewN nq
  have hB1:Below w.heap.size w w1:=hw1▸AV (Below.refl _ _) nq
  have hform1:=hL1.form
  rw[<- hw1]
  clear hw1
  go_wp2_with fail
  refine(D7 w1 16).mono ?_
  rintro e w2 ⟨rfl,hw2⟩
  have hc2:w2.cell? ⟨w1.heap.size,0,none⟩=some (.int .i64 16):=by rw[hw2];exact(Blk.new w1 3 [.int .i64 16]).cell 0
  have hb2:Below w1.heap.size w1 w2:=hw2▸(Below.refl _ _).alloc (Nat.le_refl _) _
  have hB2:=hB1.trans (hb2.mono hB1.size)
  have hform:=(hL1.below hb2).form
  clear hw2
  go_wp2_with fail
  refine(HS.out w2 _ hc2).mono ?_
  rintro e w3 ⟨rfl,n3,hw3⟩
  have hB3:Below w.heap.size w w3:=hw3▸AV hB2 n3
  have hform3:w3.cell? ⟨1,0,none⟩=some (errV A 8):=hw3▸hform
  clear hw3 hform
  go_wp2_with fail
  go_quiet (fail)
  go_wp2_with fail
  go_ret2
  exact⟨rfl,AV hB3 _⟩
 ·have hall':(ds.all fun b=>decide (D6 b<16))=true:=by simpa using hall
  have hfull:=HL hall'
  have HS:=Lib.hid (fun(u:World) a=>DO u ds a 16 (by omega))
  rw[hfull]at HS
  clear hfull hall
  have hlt:¬ (ds.length:Int)<(ds.length:Int):=by omega
  obtain⟨R,hR⟩:∃ R,R=lnb 16 ds:=⟨_,rfl⟩
  rw[<- hR]
  have HR:=Lib.hid hR
  clear hR
  go_enter Tryz.func123,Tryz.ntmps123
  go_wp2_with fail
  refine HX.out.mono ?_
  rintro e w ⟨rfl,rfl⟩
  go_wp2_with fail
  go_quiet (fail)
  obtain⟨w1,hw1⟩:∃ w1,w1=w.drewN nq:=⟨_,rfl⟩
  have hL1:Lx w1 A m:=hw1▸hL.drewN nq
  have hB1:Below w.heap.size w w1:=hw1▸AV (Below.refl _ _) nq
  have hform1:=hL1.form
  rw[<- hw1]
  clear hw1
  go_wp2_with fail
  refine(D7 w1 16).mono ?_
  rintro e w2 ⟨rfl,hw2⟩
  have hc2:w2.cell? ⟨w1.heap.size,0,none⟩=some (.int .i64 16):=by rw[hw2];exact(Blk.new w1 3 [.int .i64 16]).cell 0
  have hb2:Below w1.heap.size w1 w2:=hw2▸(Below.refl _ _).alloc (Nat.le_refl _) _
  have hB2:=hB1.trans (hb2.mono hB1.size)
  have hrange:=(hL1.below hb2).range
  clear hw2
  go_wp2_with fail
  refine(HS.out w2 _ hc2).mono ?_
  rintro e w3 ⟨rfl,n3,hw3⟩
  have hB3:Below w.heap.size w w3:=hw3▸AV hB2 n3
  have hrange3:w3.cell? ⟨4,0,none⟩=some (errV A 0):=hw3▸hrange
  clear hw3 hrange hc2
  go_wp2_with fail
  clear hform hform1 hfr
  go_loopg [35,6] ds.length (fun g i n wx=>∃ (j:Nat) (N:Int),j+g=ds.length/\i=.int .i64 (j:Int)/\n=.int .i64 N/\Hid (N=(FS 16 (ds.take j):Int))/\0<=N/\N<=2147483647/\wx=w3)
  case atStart=>exact⟨0,0,by omega,rfl,rfl,Lib.hid rfl,by omega,by omega,rfl⟩
  case round=>
   obtain⟨j,N,hj,rfl,rfl,HN,hN0,hN1,rfl⟩:=hrel
   cases gk with
   | zero=>
    obtain rfl:j=ds.length:=by omega
    have e:R=(FS 16 ds,0):=by
     have h:=HN.out
     rw[List.take_length]at h
     rw[HR.out]
     exact WO h0 hall' (by omega)
    go_wp2_with fail
    go_ret2
    exact⟨by rw[e,HN.out,List.take_length];rfl,hB3⟩
   | succ g=>
    have hjl:j<ds.length:=by omega
    have hlt:(j:Int)<(ds.length:Int):=by omega
    have hix:=C7 ds j hjl
    obtain⟨b,hb⟩:∃ b,ds[j]=b:=⟨_,rfl⟩
    rw[hb]at hix
    have hb':ds[j]?=some b:=by rw[List.getElem?_eq_getElem hjl,hb]
    obtain⟨hv1,hv2⟩:=PS 16 (by decide) hb'
    have hdb:D6 b<16:=of_decide_eq_true (List.all_eq_true.1 hall' b (List.mem_of_getElem? hb'))
    have HD:=Lib.hid (J6 wr b)
    have HV:=Lib.hid (show((FS 16 (ds.take (j+1)):Nat):Int)=N*16+(D6 b:Int) by rw[hv1,HN.out];simp)
    have HV2:=Lib.hid hv2
    clear hb hb' hv1 hv2
    have hd0:(0:Int)<=(D6 b:Int):=by omega
    have hd1:(D6 b:Int)<16:=by omega
    clear hdb
    generalize(D6 b:Int)=d at *
    by_cases hov:2147483647<N*16+d
    ·have hgt:(2147483647-d).tdiv 16<N:=by
      rw[Int.tdiv_eq_ediv_of_nonneg (by omega)];omega
     have e:R=(0,1):=by
      rw[HR.out]
      refine N9 h0 hall' ?_
      have h1:=HV.out
      have h2:=HV2.out
      omega
     go_wp2_with fail
     refine HD.out.mono ?_
     rintro e w ⟨rfl,rfl⟩
     go_wp2_with fail
     go_quiet (fail)
     go_wp2_with fail
     go_ret2
     exact⟨by rw[e];rfl,AV hB3 _⟩
    ·have hgt:¬ (2147483647-d).tdiv 16<N:=by
      rw[Int.tdiv_eq_ediv_of_nonneg (by omega)];omega
     go_wp2_with fail
     refine HD.out.mono ?_
     rintro e wr ⟨rfl,rfl⟩
     go_wp2_with fail
     go_roundg g
     case measure=>omega
     case rel=>exact⟨j+1,N*16+d,by omega,by go_num,by go_num,Lib.hid HV.out.symm,by omega,by omega,rfl⟩
set_option maxHeartbeats 1000000 in
theorem Q4D(w:World)(A:Nat->Addr)(m:Int)(hL:Lx w A m)(l:List UInt8)(hl:l.length<1000000000)(hx:decide (l.take 2=[48,120])=false)(hy:decide (l.take 2=[48,88])=true)(h2:2<=l.length):
  Calls Tryz.prog 123 #[.string (str l)] w (Q0Y w A (lnb 16 (l.drop 2))):=by
 have HX:=Lib.hid (BR w l 48 120)
 rw[hx]at HX
 have HY:=Lib.hid (BR w l 48 88)
 rw[hy]at HY
 clear hx hy
 have hfr:∀ u,(Instr.slice 9 (.string (str l)) (some (.int .i64 2)) none none).run Tryz.prog u=.ok (.string (str (l.drop 2))) u:=IT l 2 h2
 obtain⟨ds,hds⟩:∃ ds,ds=l.drop 2:=⟨_,rfl⟩
 rw[<- hds]at hfr
 have hdl:ds.length<=l.length:=by rw[hds];rw[List.length_drop];omega
 rw[<- hds]
 clear hds
 have hform:=hL.form
 have hdz:(str ds).size=ds.length:=BM ds
 have hn:=CH
 by_cases h0:ds=[]
 ·subst h0
  rw[UH]
  go_enter Tryz.func123,Tryz.ntmps123
  go_wp2_with fail
  refine HX.out.mono ?_
  rintro e w ⟨rfl,rfl⟩
  go_wp2_with fail
  refine HY.out.mono ?_
  rintro e w ⟨rfl,rfl⟩
  go_wp2_with fail
  go_quiet (fail)
  obtain⟨w1,hw1⟩:∃ w1,w1=w.drewN nq:=⟨_,rfl⟩
  have hL1:Lx w1 A m:=hw1▸hL.drewN nq
  have hB1:Below w.heap.size w w1:=hw1▸AV (Below.refl _ _) nq
  have hform1:=hL1.form
  rw[<- hw1]
  clear hw1
  go_wp2_with fail
  go_quiet (fail)
  go_wp2_with fail
  go_ret2
  exact⟨rfl,AV hB1 _⟩
 have hem:ds.isEmpty=false:=by
  cases ds with
  | nil=>exact absurd rfl h0
  | cons x t=>rfl
 by_cases hall:(ds.all fun b=>decide (D6 b<16))=false
 ·rw[Q5 hall]
  have hless:=H3 hall
  have HS:=Lib.hid (fun(u:World) a=>DO u ds a 16 (by omega))
  generalize CL (fun b=>decide (D6 b<16)) ds=k at *
  have hlt:(k:Int)<(ds.length:Int):=by omega
  clear hall
  go_enter Tryz.func123,Tryz.ntmps123
  go_wp2_with fail
  refine HX.out.mono ?_
  rintro e w ⟨rfl,rfl⟩
  go_wp2_with fail
  refine HY.out.mono ?_
  rintro e w ⟨rfl,rfl⟩
  go_wp2_with fail
  go_quiet (fail)
  obtain⟨w1,hw1⟩:∃ w1,w1=w.drewN nq:=⟨_,rfl⟩
  have hL1:Lx w1 A m:=hw1▸hL.drewN nq
  have hB1:Below w.heap.size w w1:=hw1▸AV (Below.refl _ _) nq
  have hform1:=hL1.form
  rw[<- hw1]
  clear hw1
  go_wp2_with fail
  refine(D7 w1 16).mono ?_
  rintro e w2 ⟨rfl,hw2⟩
  have hc2:w2.cell? ⟨w1.heap.size,0,none⟩=some (.int .i64 16):=by rw[hw2];exact(Blk.new w1 3 [.int .i64 16]).cell 0
  have hb2:Below w1.heap.size w1 w2:=hw2▸(Below.refl _ _).alloc (Nat.le_refl _) _
  have hB2:=hB1.trans (hb2.mono hB1.size)
  have hform:=(hL1.below hb2).form
  clear hw2
  go_wp2_with fail
  refine(HS.out w2 _ hc2).mono ?_
  rintro e w3 ⟨rfl,n3,hw3⟩
  have hB3:Below w.heap.size w w3:=hw3▸AV hB2 n3
  have hform3:w3.cell? ⟨1,0,none⟩=some (errV A 8):=hw3▸hform
  clear hw3 hform
  go_wp2_with fail
  go_quiet (fail)
  go_wp2_with fail
  go_ret2
  exact⟨rfl,AV hB3 _⟩
 ·have hall':(ds.all fun b=>decide (D6 b<16))=true:=by simpa using hall
  have hfull:=HL hall'
  have HS:=Lib.hid (fun(u:World) a=>DO u ds a 16 (by omega))
  rw[hfull]at HS
  clear hfull hall
  have hlt:¬ (ds.length:Int)<(ds.length:Int):=by omega
  obtain⟨R,hR⟩:∃ R,R=lnb 16 ds:=⟨_,rfl⟩
  rw[<- hR]
  have HR:=Lib.hid hR
  clear hR
  go_enter Tryz.func123,Tryz.ntmps123
  go_wp2_with fail
  refine HX.out.mono ?_
  rintro e w ⟨rfl,rfl⟩
  go_wp2_with fail
  refine HY.out.mono ?_
  rintro e w ⟨rfl,rfl⟩
  go_wp2_with fail
  go_quiet (fail)
  obtain⟨w1,hw1⟩:∃ w1,w1=w.drewN nq:=⟨_,rfl⟩
  have hL1:Lx w1 A m:=hw1▸hL.drewN nq
  have hB1:Below w.heap.size w w1:=hw1▸AV (Below.refl _ _) nq
  have hform1:=hL1.form
  rw[<- hw1]
  clear hw1
  go_wp2_with fail
  refine(D7 w1 16).mono ?_
  rintro e w2 ⟨rfl,hw2⟩
  have hc2:w2.cell? ⟨w1.heap.size,0,none⟩=some (.int .i64 16):=by rw[hw2];exact(Blk.new w1 3 [.int .i64 16]).cell 0
  have hb2:Below w1.heap.size w1 w2:=hw2▸(Below.refl _ _).alloc (Nat.le_refl _) _
  have hB2:=hB1.trans (hb2.mono hB1.size)
  have hrange:=(hL1.below hb2).range
  clear hw2
  go_wp2_with fail
  refine(HS.out w2 _ hc2).mono ?_
  rintro e w3 ⟨rfl,n3,hw3⟩
  have hB3:Below w.heap.size w w3:=hw3▸AV hB2 n3
  have hrange3:w3.cell? ⟨4,0,none⟩=some (errV A 0):=hw3▸hrange
  clear hw3 hrange hc2
  go_wp2_with fail
  clear hform hform1 hfr
  go_loopg [35,6] ds.length (fun g i n wx=>∃ (j:Nat) (N:Int),j+g=ds.length/\i=.int .i64 (j:Int)/\n=.int .i64 N/\Hid (N=(FS 16 (ds.take j):Int))/\0<=N/\N<=2147483647/\wx=w3)
  case atStart=>exact⟨0,0,by omega,rfl,rfl,Lib.hid rfl,by omega,by omega,rfl⟩
  case round=>
   obtain⟨j,N,hj,rfl,rfl,HN,hN0,hN1,rfl⟩:=hrel
   cases gk with
   | zero=>
    obtain rfl:j=ds.length:=by omega
    have e:R=(FS 16 ds,0):=by
     have h:=HN.out
     rw[List.take_length]at h
     rw[HR.out]
     exact WO h0 hall' (by omega)
    go_wp2_with fail
    go_ret2
    exact⟨by rw[e,HN.out,List.take_length];rfl,hB3⟩
   | succ g=>
    have hjl:j<ds.length:=by omega
    have hlt:(j:Int)<(ds.length:Int):=by omega
    have hix:=C7 ds j hjl
    obtain⟨b,hb⟩:∃ b,ds[j]=b:=⟨_,rfl⟩
    rw[hb]at hix
    have hb':ds[j]?=some b:=by rw[List.getElem?_eq_getElem hjl,hb]
    obtain⟨hv1,hv2⟩:=PS 16 (by decide) hb'
    have hdb:D6 b<16:=of_decide_eq_true (List.all_eq_true.1 hall' b (List.mem_of_getElem? hb'))
    have HD:=Lib.hid (J6 wr b)
    have HV:=Lib.hid (show((FS 16 (ds.take (j+1)):Nat):Int)=N*16+(D6 b:Int) by rw[hv1,HN.out];simp)
    have HV2:=Lib.hid hv2
    clear hb hb' hv1 hv2
    have hd0:(0:Int)<=(D6 b:Int):=by omega
    have hd1:(D6 b:Int)<16:=by omega
    clear hdb
    generalize(D6 b:Int)=d at *
    by_cases hov:2147483647<N*16+d
    ·have hgt:(2147483647-d).tdiv 16<N:=by
      rw[Int.tdiv_eq_ediv_of_nonneg (by omega)];omega
     have e:R=(0,1):=by
      rw[HR.out]
      refine N9 h0 hall' ?_
      have h1:=HV.out
      have h2:=HV2.out
      omega
     go_wp2_with fail
     refine HD.out.mono ?_
     rintro e w ⟨rfl,rfl⟩
     go_wp2_with fail
     go_quiet (fail)
     go_wp2_with fail
     go_ret2
     exact⟨by rw[e];rfl,AV hB3 _⟩
    ·have hgt:¬ (2147483647-d).tdiv 16<N:=by
      rw[Int.tdiv_eq_ediv_of_nonneg (by omega)];omega
     go_wp2_with fail
     refine HD.out.mono ?_
     rintro e wr ⟨rfl,rfl⟩
     go_wp2_with fail
     go_roundg g
     case measure=>omega
     case rel=>exact⟨j+1,N*16+d,by omega,by go_num,by go_num,Lib.hid HV.out.symm,by omega,by omega,rfl⟩
set_option maxHeartbeats 1000000 in
theorem Q3M(w:World)(A:Nat->Addr)(m:Int)(hL:Lx w A m)(ds:List UInt8)(hl:ds.length<1000000000)(hx:decide (ds.take 2=[48,120])=false)(hy:decide (ds.take 2=[48,88])=false)(hpos:0<ds.length)(b:UInt8)(hb:ds[0]?=some b)(h48:b=48):
  Calls Tryz.prog 123 #[.string (str ds)] w (Q0Y w A (lnb 8 (ds))):=by
 have HX:=Lib.hid (BR w ds 48 120)
 rw[hx]at HX
 have HY:=Lib.hid (BR w ds 48 88)
 rw[hy]at HY
 clear hx hy
 have hix:∀ u,(Instr.index 9 (.string (str ds)) (.int .i64 0)).run Tryz.prog u=.ok (.int .u8 (b.toNat:Int)) u:=fun u=>by
  have h:=C7 ds 0 hpos u
  rw[List.getElem?_eq_getElem hpos]at hb
  cases hb
  exact h
 subst h48
 have h48:((48:UInt8).toNat:Int)=48:=rfl
 rw[h48]at hix
 have hform:=hL.form
 have hdz:(str ds).size=ds.length:=BM ds
 have hn:=CH
 have h0:ds≠[]:=by rintro rfl;simp at hpos
 have hem:ds.isEmpty=false:=by
  cases ds with
  | nil=>exact absurd rfl h0
  | cons x t=>rfl
 by_cases hall:(ds.all fun b=>decide (D6 b<8))=false
 ·rw[Q5 hall]
  have hless:=H3 hall
  have HS:=Lib.hid (fun(u:World) a=>DO u ds a 8 (by omega))
  generalize CL (fun b=>decide (D6 b<8)) ds=k at *
  have hlt:(k:Int)<(ds.length:Int):=by omega
  clear hall
  go_enter Tryz.func123,Tryz.ntmps123
  go_wp2_with fail
  refine HX.out.mono ?_
  rintro e w ⟨rfl,rfl⟩
  go_wp2_with fail
  refine HY.out.mono ?_
  rintro e w ⟨rfl,rfl⟩
  go_wp2_with fail
  have hL1:=hL
  have hB1:Below w.heap.size w w:=Below.refl _ _
  refine(D7 w 8).mono ?_
  rintro e w2 ⟨rfl,hw2⟩
  have hc2:w2.cell? ⟨w.heap.size,0,none⟩=some (.int .i64 8):=by rw[hw2];exact(Blk.new w 3 [.int .i64 8]).cell 0
  have hb2:Below w.heap.size w w2:=hw2▸(Below.refl _ _).alloc (Nat.le_refl _) _
  have hB2:=hB1.trans (hb2.mono hB1.size)
  have hform:=(hL1.below hb2).form
  clear hw2
  go_wp2_with fail
  refine(HS.out w2 _ hc2).mono ?_
  rintro e w3 ⟨rfl,n3,hw3⟩
  have hB3:Below w.heap.size w w3:=hw3▸AV hB2 n3
  have hform3:w3.cell? ⟨1,0,none⟩=some (errV A 8):=hw3▸hform
  clear hw3 hform
  go_wp2_with fail
  go_quiet (fail)
  go_wp2_with fail
  go_ret2
  exact⟨rfl,AV hB3 _⟩
 ·have hall':(ds.all fun b=>decide (D6 b<8))=true:=by simpa using hall
  have hfull:=HL hall'
  have HS:=Lib.hid (fun(u:World) a=>DO u ds a 8 (by omega))
  rw[hfull]at HS
  clear hfull hall
  have hlt:¬ (ds.length:Int)<(ds.length:Int):=by omega
  obtain⟨R,hR⟩:∃ R,R=lnb 8 ds:=⟨_,rfl⟩
  rw[<- hR]
  have HR:=Lib.hid hR
  clear hR
  go_enter Tryz.func123,Tryz.ntmps123
  go_wp2_with fail
  refine HX.out.mono ?_
  rintro e w ⟨rfl,rfl⟩
  go_wp2_with fail
  refine HY.out.mono ?_
  rintro e w ⟨rfl,rfl⟩
  go_wp2_with fail
  have hL1:=hL
  have hB1:Below w.heap.size w w:=Below.refl _ _
  refine(D7 w 8).mono ?_
  rintro e w2 ⟨rfl,hw2⟩
  have hc2:w2.cell? ⟨w.heap.size,0,none⟩=some (.int .i64 8):=by rw[hw2];exact(Blk.new w 3 [.int .i64 8]).cell 0
  have hb2:Below w.heap.size w w2:=hw2▸(Below.refl _ _).alloc (Nat.le_refl _) _
  have hB2:=hB1.trans (hb2.mono hB1.size)
  have hrange:=(hL1.below hb2).range
  clear hw2
  go_wp2_with fail
  refine(HS.out w2 _ hc2).mono ?_
  rintro e w3 ⟨rfl,n3,hw3⟩
  have hB3:Below w.heap.size w w3:=hw3▸AV hB2 n3
  have hrange3:w3.cell? ⟨4,0,none⟩=some (errV A 0):=hw3▸hrange
  clear hw3 hrange hc2
  go_wp2_with fail
  clear hform hix
  go_loopg [35,6] ds.length (fun g i n wx=>∃ (j:Nat) (N:Int),j+g=ds.length/\i=.int .i64 (j:Int)/\n=.int .i64 N/\Hid (N=(FS 8 (ds.take j):Int))/\0<=N/\N<=2147483647/\wx=w3)
  case atStart=>exact⟨0,0,by omega,rfl,rfl,Lib.hid rfl,by omega,by omega,rfl⟩
  case round=>
   obtain⟨j,N,hj,rfl,rfl,HN,hN0,hN1,rfl⟩:=hrel
   cases gk with
   | zero=>
    obtain rfl:j=ds.length:=by omega
    have e:R=(FS 8 ds,0):=by
     have h:=HN.out
     rw[List.take_length]at h
     rw[HR.out]
     exact WO h0 hall' (by omega)
    go_wp2_with fail
    go_ret2
    exact⟨by rw[e,HN.out,List.take_length];rfl,hB3⟩
   | succ g=>
    have hjl:j<ds.length:=by omega
    have hlt:(j:Int)<(ds.length:Int):=by omega
    have hix:=C7 ds j hjl
    obtain⟨b,hb⟩:∃ b,ds[j]=b:=⟨_,rfl⟩
    rw[hb]at hix
    have hb':ds[j]?=some b:=by rw[List.getElem?_eq_getElem hjl,hb]
    obtain⟨hv1,hv2⟩:=PS 8 (by decide) hb'
    have hdb:D6 b<8:=of_decide_eq_true (List.all_eq_true.1 hall' b (List.mem_of_getElem? hb'))
    have HD:=Lib.hid (J6 wr b)
    have HV:=Lib.hid (show((FS 8 (ds.take (j+1)):Nat):Int)=N*8+(D6 b:Int) by rw[hv1,HN.out];simp)
    have HV2:=Lib.hid hv2
    clear hb hb' hv1 hv2
    have hd0:(0:Int)<=(D6 b:Int):=by omega
    have hd1:(D6 b:Int)<8:=by omega
    clear hdb
    generalize(D6 b:Int)=d at *
    by_cases hov:2147483647<N*8+d
    ·have hgt:(2147483647-d).tdiv 8<N:=by
      rw[Int.tdiv_eq_ediv_of_nonneg (by omega)];omega
     have e:R=(0,1):=by
      rw[HR.out]
      refine N9 h0 hall' ?_
      have h1:=HV.out
      have h2:=HV2.out
      omega
     go_wp2_with fail
     refine HD.out.mono ?_
     rintro e w ⟨rfl,rfl⟩
     go_wp2_with fail
     go_quiet (fail)
     go_wp2_with fail
     go_ret2
     exact⟨by rw[e];rfl,AV hB3 _⟩
    ·have hgt:¬ (2147483647-d).tdiv 8<N:=by
      rw[Int.tdiv_eq_ediv_of_nonneg (by omega)];omega
     go_wp2_with fail
     refine HD.out.mono ?_
     rintro e wr ⟨rfl,rfl⟩
     go_wp2_with fail
     go_roundg g
     case measure=>omega
     case rel=>exact⟨j+1,N*8+d,by omega,by go_num,by go_num,Lib.hid HV.out.symm,by omega,by omega,rfl⟩
set_option maxHeartbeats 1000000 in
theorem Q35(w:World)(A:Nat->Addr)(m:Int)(hL:Lx w A m)(ds:List UInt8)(hl:ds.length<1000000000)(hx:decide (ds.take 2=[48,120])=false)(hy:decide (ds.take 2=[48,88])=false)(hpos:0<ds.length)(b:UInt8)(hb:ds[0]?=some b)(h48:¬ (b.toNat:Int)=48):
  Calls Tryz.prog 123 #[.string (str ds)] w (Q0Y w A (lnb 10 (ds))):=by
 have HX:=Lib.hid (BR w ds 48 120)
 rw[hx]at HX
 have HY:=Lib.hid (BR w ds 48 88)
 rw[hy]at HY
 clear hx hy
 have hix:∀ u,(Instr.index 9 (.string (str ds)) (.int .i64 0)).run Tryz.prog u=.ok (.int .u8 (b.toNat:Int)) u:=fun u=>by
  have h:=C7 ds 0 hpos u
  rw[List.getElem?_eq_getElem hpos]at hb
  cases hb
  exact h
 have hform:=hL.form
 have hdz:(str ds).size=ds.length:=BM ds
 have hn:=CH
 have h0:ds≠[]:=by rintro rfl;simp at hpos
 have hem:ds.isEmpty=false:=by
  cases ds with
  | nil=>exact absurd rfl h0
  | cons x t=>rfl
 by_cases hall:(ds.all fun b=>decide (D6 b<10))=false
 ·rw[Q5 hall]
  have hless:=H3 hall
  have HS:=Lib.hid (fun(u:World) a=>DO u ds a 10 (by omega))
  generalize CL (fun b=>decide (D6 b<10)) ds=k at *
  have hlt:(k:Int)<(ds.length:Int):=by omega
  clear hall
  go_enter Tryz.func123,Tryz.ntmps123
  go_wp2_with fail
  refine HX.out.mono ?_
  rintro e w ⟨rfl,rfl⟩
  go_wp2_with fail
  refine HY.out.mono ?_
  rintro e w ⟨rfl,rfl⟩
  go_wp2_with fail
  have hL1:=hL
  have hB1:Below w.heap.size w w:=Below.refl _ _
  refine(D7 w 10).mono ?_
  rintro e w2 ⟨rfl,hw2⟩
  have hc2:w2.cell? ⟨w.heap.size,0,none⟩=some (.int .i64 10):=by rw[hw2];exact(Blk.new w 3 [.int .i64 10]).cell 0
  have hb2:Below w.heap.size w w2:=hw2▸(Below.refl _ _).alloc (Nat.le_refl _) _
  have hB2:=hB1.trans (hb2.mono hB1.size)
  have hform:=(hL1.below hb2).form
  clear hw2
  go_wp2_with fail
  refine(HS.out w2 _ hc2).mono ?_
  rintro e w3 ⟨rfl,n3,hw3⟩
  have hB3:Below w.heap.size w w3:=hw3▸AV hB2 n3
  have hform3:w3.cell? ⟨1,0,none⟩=some (errV A 8):=hw3▸hform
  clear hw3 hform
  go_wp2_with fail
  go_quiet (fail)
  go_wp2_with fail
  go_ret2
  exact⟨rfl,AV hB3 _⟩
 ·have hall':(ds.all fun b=>decide (D6 b<10))=true:=by simpa using hall
  have hfull:=HL hall'
  have HS:=Lib.hid (fun(u:World) a=>DO u ds a 10 (by omega))
  rw[hfull]at HS
  clear hfull hall
  have hlt:¬ (ds.length:Int)<(ds.length:Int):=by omega
  obtain⟨R,hR⟩:∃ R,R=lnb 10 ds:=⟨_,rfl⟩
  rw[<- hR]
  have HR:=Lib.hid hR
  clear hR
  go_enter Tryz.func123,Tryz.ntmps123
  go_wp2_with fail
  refine HX.out.mono ?_
  rintro e w ⟨rfl,rfl⟩
  go_wp2_with fail
  refine HY.out.mono ?_
  rintro e w ⟨rfl,rfl⟩
  go_wp2_with fail
  have hL1:=hL
  have hB1:Below w.heap.size w w:=Below.refl _ _
  refine(D7 w 10).mono ?_
  rintro e w2 ⟨rfl,hw2⟩
  have hc2:w2.cell? ⟨w.heap.size,0,none⟩=some (.int .i64 10):=by rw[hw2];exact(Blk.new w 3 [.int .i64 10]).cell 0
  have hb2:Below w.heap.size w w2:=hw2▸(Below.refl _ _).alloc (Nat.le_refl _) _
  have hB2:=hB1.trans (hb2.mono hB1.size)
  have hrange:=(hL1.below hb2).range
  clear hw2
  go_wp2_with fail
  refine(HS.out w2 _ hc2).mono ?_
  rintro e w3 ⟨rfl,n3,hw3⟩
  have hB3:Below w.heap.size w w3:=hw3▸AV hB2 n3
  have hrange3:w3.cell? ⟨4,0,none⟩=some (errV A 0):=hw3▸hrange
  clear hw3 hrange hc2
  go_wp2_with fail
  clear hform hix
  go_loopg [35,6] ds.length (fun g i n wx=>∃ (j:Nat) (N:Int),j+g=ds.length/\i=.int .i64 (j:Int)/\n=.int .i64 N/\Hid (N=(FS 10 (ds.take j):Int))/\0<=N/\N<=2147483647/\wx=w3)
  case atStart=>exact⟨0,0,by omega,rfl,rfl,Lib.hid rfl,by omega,by omega,rfl⟩
  case round=>
   obtain⟨j,N,hj,rfl,rfl,HN,hN0,hN1,rfl⟩:=hrel
   cases gk with
   | zero=>
    obtain rfl:j=ds.length:=by omega
    have e:R=(FS 10 ds,0):=by
     have h:=HN.out
     rw[List.take_length]at h
     rw[HR.out]
     exact WO h0 hall' (by omega)
    go_wp2_with fail
    go_ret2
    exact⟨by rw[e,HN.out,List.take_length];rfl,hB3⟩
   | succ g=>
    have hjl:j<ds.length:=by omega
    have hlt:(j:Int)<(ds.length:Int):=by omega
    have hix:=C7 ds j hjl
    obtain⟨b,hb⟩:∃ b,ds[j]=b:=⟨_,rfl⟩
    rw[hb]at hix
    have hb':ds[j]?=some b:=by rw[List.getElem?_eq_getElem hjl,hb]
    obtain⟨hv1,hv2⟩:=PS 10 (by decide) hb'
    have hdb:D6 b<10:=of_decide_eq_true (List.all_eq_true.1 hall' b (List.mem_of_getElem? hb'))
    have HD:=Lib.hid (J6 wr b)
    have HV:=Lib.hid (show((FS 10 (ds.take (j+1)):Nat):Int)=N*10+(D6 b:Int) by rw[hv1,HN.out];simp)
    have HV2:=Lib.hid hv2
    clear hb hb' hv1 hv2
    have hd0:(0:Int)<=(D6 b:Int):=by omega
    have hd1:(D6 b:Int)<10:=by omega
    clear hdb
    generalize(D6 b:Int)=d at *
    by_cases hov:2147483647<N*10+d
    ·have hgt:(2147483647-d).tdiv 10<N:=by
      rw[Int.tdiv_eq_ediv_of_nonneg (by omega)];omega
     have e:R=(0,1):=by
      rw[HR.out]
      refine N9 h0 hall' ?_
      have h1:=HV.out
      have h2:=HV2.out
      omega
     go_wp2_with fail
     refine HD.out.mono ?_
     rintro e w ⟨rfl,rfl⟩
     go_wp2_with fail
     go_quiet (fail)
     go_wp2_with fail
     go_ret2
     exact⟨by rw[e];rfl,AV hB3 _⟩
    ·have hgt:¬ (2147483647-d).tdiv 10<N:=by
      rw[Int.tdiv_eq_ediv_of_nonneg (by omega)];omega
     go_wp2_with fail
     refine HD.out.mono ?_
     rintro e wr ⟨rfl,rfl⟩
     go_wp2_with fail
     go_roundg g
     case measure=>omega
     case rel=>exact⟨j+1,N*10+d,by omega,by go_num,by go_num,Lib.hid HV.out.symm,by omega,by omega,rfl⟩
theorem S7(w:World)(A:Nat->Addr)(m:Int)(hL:Lx w A m)(l:List UInt8)(h0:0<l.length)(hl:l.length<1000000000):
  Calls Tryz.prog 123 #[.string (str l)] w (Q0Y w A (M9 l)):=by
 have two:∀ x y:UInt8,l.take 2=[x,y]->2<=l.length:=fun x y h=>by
  have h:=congrArg List.length h
  rw[List.length_take]at h
  simp only[List.length_cons,List.length_nil]at h
  omega
 unfold M9
 by_cases hx:l.take 2=[48,120]
 ·rw[if_pos (.inl hx)]
  exact Q34 w A m hL l hl (decide_eq_true hx) (two _ _ hx)
 by_cases hy:l.take 2=[48,88]
 ·rw[if_pos (.inr hy)]
  exact Q4D w A m hL l hl (decide_eq_false hx) (decide_eq_true hy) (two _ _ hy)
 rw[if_neg (by simp[hx,hy])]
 have hb:l[0]?=some l[0]:=List.getElem?_eq_getElem h0
 rw[List.head?_eq_getElem?,hb]
 by_cases h48:l[0]=48
 ·rw[if_pos (by rw[h48])]
  exact Q3M w A m hL l hl (decide_eq_false hx) (decide_eq_false hy) h0 _ hb h48
 ·rw[if_neg (by simpa using h48)]
  exact Q35 w A m hL l hl (decide_eq_false hx) (decide_eq_false hy) h0 _ hb (fun e=>h48 (UInt8.toNat_inj.1 (by simp;omega)))
theorem Q0x(s:ByteArray)(i:Nat)(hi:i<s.size)(hb:128<=(s.get! i).toNat):
  128<=(Utf8.decode s i).1/\Utf8.valid ((Utf8.decode s i).1:Int)=true/\1<=(Utf8.decode s i).2/\i+(Utf8.decode s i).2<=s.size /\ ∀ k,k<(Utf8.decode s i).2->128<=(s.get! (i+k)).toNat:=by
 have hone:(∀ k,k<1->128<=(s.get! (i+k)).toNat):=fun k hk=>by
  obtain rfl:k=0:=by omega
  exact hb
 have bad:128<=Utf8.runeError/\Utf8.valid (Utf8.runeError:Int)=true/\1<=1/\i+1<=s.size /\ ∀ k,k<1->128<=(s.get! (i+k)).toNat:=⟨by decide,by decide,by omega,by omega,hone⟩
 have lt:∀ k,(s.get! (i+k)).toNat<256:=fun k=>UInt8.toNat_lt _
 have l0:=lt 0;have l1:=lt 1;have l2:=lt 2;have l3:=lt 3
 have hb0:128<=(s.get! (i+0)).toNat:=hb
 unfold Utf8.decode
 dsimp only
 rw[if_neg (show ¬ (s.get! (i+0)).toNat<128 by omega)]
 have val:∀ c:Nat,Utf8.valid (c:Int)=true↔(c<55296\/57344<=c/\c<=1114111):=fun c=>by
  unfold Utf8.valid
  simp only[Bool.or_eq_true,Bool.and_eq_true,decide_eq_true_eq]
  omega
 split
 ·rename_i h
  simp only[Bool.and_eq_true,decide_eq_true_eq,beq_iff_eq]at h
  split
  ·rename_i hc
   refine⟨hc,(val _).2 (by simp only;omega),by simp,by simp only;omega,fun k hk=>?_⟩
   simp only at hk
   match k,hk with
   | 0,_=>exact hb
   | 1,_=>omega
  ·exact bad
 split
 ·rename_i h
  simp only[Bool.and_eq_true,decide_eq_true_eq,beq_iff_eq]at h
  split
  ·rename_i hc
   simp only[Bool.and_eq_true,decide_eq_true_eq,ge_iff_le]at hc
   refine⟨by simp only;omega,hc.2,by simp,by simp only;omega,fun k hk=>?_⟩
   simp only at hk
   match k,hk with
   | 0,_=>exact hb
   | 1,_=>omega
   | 2,_=>omega
  ·exact bad
 split
 ·rename_i h
  simp only[Bool.and_eq_true,decide_eq_true_eq,beq_iff_eq]at h
  split
  ·rename_i hc
   simp only[Bool.and_eq_true,decide_eq_true_eq,ge_iff_le]at hc
   refine⟨by simp only;omega,hc.2,by simp,by simp only;omega,fun k hk=>?_⟩
   simp only at hk
   match k,hk with
   | 0,_=>exact hb
   | 1,_=>omega
   | 2,_=>omega
   | 3,_=>omega
  ·exact bad
 ·exact bad
theorem Y7{P:Program}(w:World)(g:Nat)(s:ByteArray)(pos:Nat)(ty:TypeId)(h:w.heap[g]?=some (.stringIter s pos))(hp:pos<s.size):
  ∃ w',(Instr.next (.pointer (some ⟨g,0,none⟩)) true ty).run P w=.ok (.tuple #[.bool true,.int .i64 pos,.int .i32 (Utf8.decode s pos).1]) w'/\w'.heap[g]?=some (.stringIter s (pos+(Utf8.decode s pos).2)) /\ ∀ B,B<=g->Below B w w':=by
 have hg:g<w.heap.size:=by
  rcases Nat.lt_or_ge g w.heap.size with hlt | hge
  ·exact hlt
  ·rw[Array.getElem?_eq_none hge]at h;cases h
 refine⟨{ w with heap:=w.heap.setIfInBounds g (.stringIter s (pos+(Utf8.decode s pos).2)) },?_,?_,fun B hB=>?_⟩
 ·simp only[Instr.next,getObj,setObj,Sem.run_bind,Sem.run,h,Result.andThen,hp,if_true]
  simp[goInt]
 ·simp[hg]
 ·refine⟨rfl,rfl,rfl,by simp,fun j hj=>?_⟩
  show(w.heap.setIfInBounds g _)[j]?=_
  rw[Array.getElem?_setIfInBounds_ne (by omega)]
theorem TZ{P:Program}(w:World)(g:Nat)(s:ByteArray)(pos:Nat)(ty:TypeId)(h:w.heap[g]?=some (.stringIter s pos))(hp:¬ pos<s.size):
  (Instr.next (.pointer (some ⟨g,0,none⟩)) true ty).run P w=.ok (.tuple #[.bool false]) w:=by
 simp[Instr.next,getObj,Sem.run,h,hp]
theorem YT(w:World):Calls Tryz.prog 200 #[.string (str [92,10]),.int .i32 65533] w fun e w'=>e=.returned (.int .i64 (-1))/\Below w.heap.size w w':=by
 have n0:∀ ty,(Instr.next (.pointer (some ⟨w.heap.size,0,none⟩)) true ty).run Tryz.prog (w.iter (str [92,10]) 0)=.ok (.tuple #[.bool true,.int .i64 0,.int .i32 92]) (w.iter (str [92,10]) 1):=fun ty=>run_next_ascii w (str [92,10]) 0 ty (by decide) (by decide)
 have n1:∀ ty,(Instr.next (.pointer (some ⟨w.heap.size,0,none⟩)) true ty).run Tryz.prog (w.iter (str [92,10]) 1)=.ok (.tuple #[.bool true,.int .i64 1,.int .i32 10]) (w.iter (str [92,10]) 2):=fun ty=>run_next_ascii w (str [92,10]) 1 ty (by decide) (by decide)
 have n2:∀ ty,(Instr.next (.pointer (some ⟨w.heap.size,0,none⟩)) true ty).run Tryz.prog (w.iter (str [92,10]) 2)=.ok (.tuple #[.bool false]) (w.iter (str [92,10]) 2):=fun ty=>run_next_end w (str [92,10]) 2 ty (by decide)
 go_enter Tryz.func200,Tryz.ntmps200
 go_wp2_with fail
 refine wp_loop_rounds 3 ?_
 rw[rounds_succ]
 go_wp2
 rw[rounds_succ]
 go_wp2
 rw[rounds_succ]
 go_wp2
 go_ret
 exact⟨rfl,(Below.refl _ _).alloc (Nat.le_refl _) _⟩
theorem Q7l(R:ByteArray)(h:R.size=2):∃ a b,R=str [a,b]/\R[R.size-1]'(by omega)=b:=by
 obtain⟨⟨l⟩⟩:=R
 match l,h with
 | [a,b],_=>exact⟨a,b,rfl,rfl⟩
theorem YN(w:World)(c:Int)(h:128<=c)(hv:Utf8.valid c=true)(hne:¬ c=65533):Calls Tryz.prog 200 #[.string (str [92,10]),.int .i32 c] w fun e w'=>e=.returned (.int .i64 (-1))/\Below w.heap.size w w':=by
 have hlt:¬ c<128:=by omega
 have hval:Lib.validRune c=true:=by
  unfold Utf8.valid at hv
  unfold Lib.validRune
  simp only[Bool.or_eq_true,Bool.and_eq_true,decide_eq_true_eq]at hv ⊢
  omega
 obtain⟨h2,h4,hlast⟩:=encode_facts c hv h
 have HV:=Lib.hid (Tryz.utf8_ValidRune c w)
 rw[hval]at HV
 have hcv:∀ u,(convert 21 9 (.int .i32 c)).run Tryz.prog u=.ok (.string (Utf8.encode c)) u:=fun u=>run_convert_int_string u _ _ .i32 c (by kernel_rfl) Tryz.underlying9
 clear hval hv
 generalize Utf8.encode c=R at *
 have hz:(str [92,10]).size=2:=rfl
 by_cases hR:R.size=2
 ·obtain⟨a,b,rfl,hb⟩:=Q7l R hR
  have hb':=hlast (by omega)
  rw[hb]at hb'
  clear hb hlast h2 h4
  have i1:∀ u,(Instr.index 9 (.string (str [92,10])) (.int .i64 1)).run Tryz.prog u=.ok (.int .u8 10) u:=C7 [92,10] 1 (by decide)
  have i2:∀ u,(Instr.index 9 (.string (str [a,b])) (.int .i64 1)).run Tryz.prog u=.ok (.int .u8 (b.toNat:Int)) u:=C7 [a,b] 1 (by simp)
  have i3:∀ u,(Instr.slice 9 (.string (str [92,10])) (some (.int .i64 2)) none none).run Tryz.prog u=.ok (.string (str [])) u:=IT [92,10] 2 (by decide)
  have hIB:∀ (x:Int) u,Calls Tryz.prog 122 #[.string (str []),.int .u8 x] u fun e w'=>e=.returned (.int .i64 (-1))/\w'=u:=fun x u=>Tryz.strings_IndexByte (str []) x u
  have HIB:=Lib.hid hIB
  clear hIB
  have hwr:IntKind.i64.wrap 2=2:=by decide
  have hbn:((10:Int) != (b.toNat:Int))=true:=bne_iff_ne.2 (by omega)
  generalize(b.toNat:Int)=B at *
  go_enter Tryz.func200,Tryz.ntmps200
  go_wp2_with fail
  refine HV.out.mono ?_
  rintro e w ⟨rfl,rfl⟩
  go_wp2_with fail
  go_step3
  go_wp2_with fail
  refine wp_loop_rounds 1 ?_
  rw[rounds_succ]
  go_wp2_with fail
  go_step3
  go_wp2_with fail
  go_quiet (fail)
  go_wp2_with fail
  obtain⟨w1,hw1⟩:∃ w1,w1=w.drewN nq:=⟨_,rfl⟩
  rw[<- hw1]
  have HW:=Lib.hid hw1
  clear hw1
  go_quiet (exact Calls.quiet_of_same (HIB.out B _))
  go_wp2_with fail
  rw[HW.out]
  rw[Exit.noGoto_ret]
  go_wp2_with fail
  rw[Exit.noGoto_ret]
  go_wp2_with fail
  go_ret
  exact⟨rfl,AV (AV (Below.refl _ _) _) _⟩
 ·have hge:¬ ((R.size:Int)-1<2):=by omega
  go_enter Tryz.func200,Tryz.ntmps200
  go_wp2_with fail
  refine HV.out.mono ?_
  rintro e w ⟨rfl,rfl⟩
  go_wp2_with fail
  go_step3
  go_wp2_with fail
  refine wp_loop_rounds 1 ?_
  rw[rounds_succ]
  go_wp2_with fail
  first | rw[Exit.noGoto_ret] | skip
  go_ret
  exact⟨rfl,Below.refl _ _⟩
def lxBad:List UInt8:=[92,10]
theorem Q2E{b:UInt8}(h:128<=b.toNat):lxBad.contains b=false:=by
 unfold lxBad
 simp only[List.contains_cons,List.contains_nil,Bool.or_false,Bool.or_eq_false_iff]
 constructor<;>(rw[beq_eq_false_iff_ne];rintro rfl;simp at h)
theorem R3:(str [92,10]).data.toList=lxBad:=rfl
theorem Q0u{l:List UInt8}{i n:Nat}(h:Lib.NoAny l lxBad i)(hb:∀ (k:Nat) (b:UInt8),k<n->l[i+k]?=some b->128<=b.toNat):Lib.NoAny l lxBad (i+n):=fun j b hj hc=>by
 rcases Nat.lt_or_ge j i with hlt | hge
 ·exact h j b hlt hc
 ·exact Q2E (hb (j-i) b (by omega) (by rw[show i+(j-i)=j by omega];exact hc))
theorem ZL(l:List UInt8)(i:Nat)(b:UInt8)(h:l[i]?=some b):(str l).get! i=b:=by
 obtain⟨hi,he⟩:=List.getElem?_eq_some_iff.1 h
 have:(str l).get! i=(str l)[i]'(by rw[BM];exact hi):=by
  simp[ByteArray.get!,getElem!_pos,str,hi]
  rfl
 rw[this]
 exact he
theorem VV(w:World)(l:List UInt8)(hl:l.length<1000000000):
  Calls Tryz.prog 166 #[.string (str l),.string (str [92,10])] w fun e w'=>e=.returned (.int .i64 (Lib.indexAny l lxBad))/\Below w.heap.size w w':=by
 have hz:(str l).size=l.length:=BM l
 by_cases h8:8<l.length
 ·refine(Tryz.strings_IndexAny_long (zero_of_info (n:=256) (by kernel_rfl)).1 (str l) (str [92,10]) w (by decide) (by omega) (by omega) (by decide) (fun j b hb=>?_)).mono fun e w' ⟨h1,h2⟩=>⟨by rw[h1,R3];simp[str],?_⟩
  ·have:=List.mem_of_getElem? hb
   rw[R3]at this
   unfold lxBad at this
   simp only[List.mem_cons,List.not_mem_nil,or_false]at this
   rcases this with rfl | rfl<;>decide
  ·rw[h2]
   exact((Below.refl _ _).alloc (Nat.le_refl _) _).alloc (by simp) _
 ·have HU:=Lib.hid (Tryz.strings_shouldUseASCIISet (l.length:Int) w)
  have HE:=Lib.hid (fun u=>YT u)
  have HB:=Lib.hid (fun u=>YN u)
  have h8z:¬ (8:Int)<(l.length:Int):=by omega
  clear h8
  have hcz:(str [92,10]).size=2:=rfl
  have hemp:(str [92,10]).toList.isEmpty=false:=by rw[CH];rfl
  go_enter Tryz.func166,Tryz.ntmps166
  go_wp2_with fail
  refine HU.out.mono ?_
  rintro e w ⟨rfl,rfl⟩
  go_wp2_with fail
  go_loopg [9,10] l.length (fun g _ _ wx=>∃ i:Nat,i+g=l.length/\wx.heap[w.heap.size]?=some (.stringIter (str l) i)/\Below w.heap.size w wx/\Hid (Lib.NoAny l lxBad i))
  case atStart=>exact⟨0,by omega,World.iter_heap _ _ _,(Below.refl _ _).alloc (Nat.le_refl _) _,Lib.hid (Lib.NoAny.zero _ _)⟩
  case round=>
   obtain⟨i,hig,hit,hbx,HN⟩:=hrel
   cases gk with
   | zero=>
    obtain rfl:i=l.length:=by omega
    have hnx:=fun ty=>TZ (P:=Tryz.prog) wr w.heap.size (str l) l.length ty hit (by omega)
    go_wp2_with fail
    go_ret
    exact⟨by rw[Lib.indexAny_none HN.out];rfl,hbx⟩
   | succ g=>
    have hi:i<l.length:=by omega
    obtain⟨x,hx⟩:∃ x,l[i]?=some x:=⟨_,List.getElem?_eq_getElem hi⟩
    have hgx:=ZL l i x hx
    obtain⟨w2,hnx,hit2,hb2⟩:=Y7 (P:=Tryz.prog) wr w.heap.size (str l) i 0 hit (by omega)
    have hb3:=hbx.trans (hb2 _ (Nat.le_refl _))
    have HX:=Lib.hid hx
    have hsz3:=hb3.size
    clear hb2 hit hbx
    by_cases h128:x.toNat<128
    ·have hdec:Utf8.decode (str l) i=(x.toNat,1):=by
      have h:=decode_ascii (str l) i (by omega) (by rw[Q1V];rw[List.getElem?_eq_getElem hi]at hx;cases hx;exact h128)
      rw[h,Q1V]
      rw[List.getElem?_eq_getElem hi]at hx
      cases hx
      rfl
     rw[hdec]at hnx hit2
     clear hdec hx
     have HI:=Lib.hid (Tryz.strings_IndexRune_ascii (str [92,10]) (x.toNat:Int) w2 (by omega) (by omega))
     rw[R3,Lib.byte_back']at HI
     have hcon:=Lib.contains_iff_indexByte lxBad x
     cases hin:lxBad.contains x
     ·rw[hin]at hcon
      have hlt:¬ ((0:Int)<=Lib.indexByte lxBad x):=of_decide_eq_false hcon.symm
      clear hcon
      go_wp2_with fail
      refine HI.out.mono ?_
      rintro e w2 ⟨rfl,rfl⟩
      go_wp2_with fail
      go_roundg g
      case measure=>omega
      case rel=>exact⟨i+1,by omega,hit2,hb3,Lib.hid (HN.out.succ HX.out hin)⟩
     ·rw[hin]at hcon
      have hge:(0:Int)<=Lib.indexByte lxBad x:=of_decide_eq_true hcon.symm
      clear hcon
      go_wp2_with fail
      refine HI.out.mono ?_
      rintro e w2 ⟨rfl,rfl⟩
      go_wp2_with fail
      go_ret
      exact⟨by rw[Lib.indexAny_hit HN.out HX.out hin];rfl,hb3⟩
    ·have hbig:=Q0x (str l) i (by omega) (by rw[hgx];omega)
     generalize Utf8.decode (str l) i=D at *
     obtain⟨c,n⟩:=D
     obtain⟨hc,hv,hn,hin,hall⟩:=hbig
     simp only at hc hv hn hin hall hnx hit2
     have HN2:=Lib.hid (Q0u (n:=n) HN.out (fun k b hk hb=>by
      have:=hall k hk
      rw[ZL l (i+k) b hb]at this
      exact this))
     clear hall hx
     by_cases he:c=65533
     ·subst he
      go_wp2_with fail
      refine(HE.out w2).mono ?_
      rintro e w3 ⟨rfl,hb4⟩
      have hit3:=(hb4.block w.heap.size (Array.getElem?_eq_some_iff.1 hit2).1).trans hit2
      go_wp2_with fail
      go_roundg (g-(n-1))
      case measure=>omega
      case rel=>exact⟨i+n,by omega,hit3,hb3.trans (hb4.mono hsz3),HN2⟩
     ·go_wp2_with fail
      refine(HB.out w2 (c:Int) (by omega) hv (by omega)).mono ?_
      rintro e w3 ⟨rfl,hb4⟩
      have hit3:=(hb4.block w.heap.size (Array.getElem?_eq_some_iff.1 hit2).1).trans hit2
      go_wp2_with fail
      go_roundg (g-(n-1))
      case measure=>omega
      case rel=>exact⟨i+n,by omega,hit3,hb3.trans (hb4.mono hsz3),HN2⟩
theorem WD(l:List UInt8):decide (0<=Lib.indexAny l lxBad)=decide ((92:UInt8)∈l\/(10:UInt8)∈l):=by
 induction l with
 | nil=>rfl
 | cons b l ih=>
  have hge:=Lib.indexAny_ge lxBad l
  rw[decide_eq_decide]at ih ⊢
  unfold Lib.indexAny
  by_cases h:lxBad.contains b=true
  ·rw[if_pos h]
   unfold lxBad at h
   simp only[List.contains_cons,List.contains_nil,Bool.or_false,Bool.or_eq_true,beq_iff_eq]at h
   simp only[Int.le_refl,true_iff,List.mem_cons]
   rcases h with rfl | rfl
   ·exact .inl (.inl rfl)
   ·exact .inr (.inl rfl)
  ·rw[if_neg h]
   have h1:¬ (92:UInt8)=b:=by rintro rfl;exact h (by decide)
   have h2:¬ (10:UInt8)=b:=by rintro rfl;exact h (by decide)
   simp only[List.mem_cons,h1,h2,false_or]
   rw[<- ih]
   split
   ·rename_i h3
    have:Lib.indexAny l lxBad = -1:=by simpa using h3
    omega
   ·rename_i h3
    have:Lib.indexAny l lxBad ≠ -1:=by simpa using h3
    omega
theorem JU(w:World)(l:List UInt8)(hl:l.length<1000000000):
  Calls Tryz.prog 124 #[.string (str l),.string (str [92,10])] w fun e w'=>e=.returned (.bool (decide ((92:UInt8)∈l\/(10:UInt8)∈l)))/\Below w.heap.size w w':=by
 have HI:=Lib.hid (VV w l hl)
 have hp:=WD l
 generalize Lib.indexAny l lxBad=I at *
 rw[<- hp]
 clear hp
 go_enter Tryz.func124,Tryz.ntmps124
 go_wp2_with fail
 refine HI.out.mono ?_
 rintro e w1 ⟨rfl,hb⟩
 go_wp2_with fail
 go_ret
 exact⟨rfl,hb⟩
end Go.Proofs.YtgcphgdkddihcaaGreatDoor
