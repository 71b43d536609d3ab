/- Part 30. Conditions: as each theorem says. -/
import Derived.Test.YtgcphgdkddihcaaGreatDoorSR29
import Derived.Test.YtgcphgdkddihcaaGreatDoorProg
import Derived.Deep.RegionHeld3
import Derived.Maps.AppendAt
import Derived.RegionTactic
import Derived.ChangeAlike
set_option maxRecDepth 100000
namespace Go.Proofs.YtgcphgdkddihcaaGreatDoor
open Go.RowKit
def BT(t:Tok)(li co:Nat):List Value:=[.int .i64 (t.k:Int),.string (str t.t),.int .i64 (t.n:Int),.int .i64 (li:Int),.int .i64 (co:Int)]
def Q0P(t:Tok):Value:=.agg (BT t 0 0).toArray
theorem UV{w:World}{p:Addr}{v:Value}(h:w.cell? p=some v):w.drew.cell? p=some v:=h
def TG(w:World)(A:Nat->Addr)(r:Tok×Nat)(e:Ending)(w':World):Prop:=
 e=.returned (.tuple #[Q0P r.1,FV A r.2])/\Below w.heap.size w w'
theorem GR(w:World)(l:List UInt8)(hl:l.length<1000000000):Calls Tryz.prog 85 #[.string (str l)] w fun e w'=>e=.returned (.string (str l))/\Below w.heap.size w w':=by
 go_enter Tryz.func85,Tryz.ntmps85
 go_wp2_with fail
 refine(Tryz.stringslite_Clone (str l) w (by rw[BM];omega)).mono ?_
 rintro e w1 ⟨rfl,hb⟩
 go_wp2_with fail
 go_ret
 exact⟨rfl,hb⟩
theorem Q2M(w:World)(A:Nat->Addr)(p:List UInt8):Calls Tryz.prog 74 #[.int .i64 0,.string (str p)] w (TG w A (⟨0,[],0⟩,0)):=by
 go_enter Tryz.func74,Tryz.ntmps74
 go_wp2_with fail
 refine bodyPost_ret (D8 rfl _ _ w.heap.size 128 (BT ⟨0,[],0⟩ 0 0) _ rfl ((Blk.new w _ _).alloc _) Tryz.underlying128 (by kernel_rfl)) rfl ⟨rfl,((Below.refl _ _).alloc (Nat.le_refl _) _).alloc (by simp) _⟩
def QR(w:World)(k:Nat):World:=(w.alloc (.cells (BT ⟨0,[],0⟩ 0 0).toArray 128)).alloc (.cells (BT ⟨k,[],0⟩ 0 0).toArray 128)
theorem DR(w:World)(k:Nat):Below w.heap.size w (QR w k):=((Below.refl _ _).alloc (Nat.le_refl _) _).alloc (by simp) _
theorem HG(w:World)(k:Nat):Blk (QR w k) w.heap.size 128 (BT ⟨0,[],0⟩ 0 0):=(Blk.new w _ _).alloc _
theorem HZ(w:World)(k:Nat):Blk (QR w k) (w.heap.size+1) 128 (BT ⟨k,[],0⟩ 0 0):=by
 have h:=Blk.new (w.alloc (.cells (BT ⟨0,[],0⟩ 0 0).toArray 128)) 128 (BT ⟨k,[],0⟩ 0 0)
 have e:(w.alloc (.cells (BT ⟨0,[],0⟩ 0 0).toArray 128)).heap.size=w.heap.size+1:=by simp
 rw[e]at h
 exact h
theorem Blk.cells5{w:World}{g:Nat}{t:TypeId}{a b c d e:Value}(h:Blk w g t [a,b,c,d,e]):
  w.cell? ⟨g,0,none⟩=some a/\w.cell? ⟨g,1,none⟩=some b/\w.cell? ⟨g,2,none⟩=some c/\w.cell? ⟨g,3,none⟩=some d/\w.cell? ⟨g,4,none⟩=some e:=
 ⟨h.cell 0,h.cell 1,h.cell 2,h.cell 3,h.cell 4⟩
set_option maxHeartbeats 1000000 in
theorem Q0v(w:World)(A:Nat->Addr)(p:List UInt8)(hp:¬ 40<p.length):Calls Tryz.prog 74 #[.int .i64 1,.string (str p)] w (TG w A (⟨1,p,0⟩,0)):=by
 have hz:(str p).size=p.length:=BM p
 have hp':¬ (40:Int)<(p.length:Int):=by omega
 have hk0:=HG w 1
 have hk1:=HZ w 1
 have hb0:=DR w 1
 go_enter Tryz.func74,Tryz.ntmps74
 go_wp2_with fail
 refine(GR (QR w 1) p (by omega)).mono ?_
 rintro e w3 ⟨rfl,hb3⟩
 replace hk0:=hk0.kept hb3
 replace hk1:=hk1.kept hb3
 have hB3:=hb0.trans (hb3.mono hb0.size)
 have f1:=hk1.frozen 1
 have f2:=hk1.frozen 2
 obtain⟨c0,c1,c2,c3,c4⟩:=hk1.cells5
 obtain⟨r0,r1,r2,r3,r4⟩:=hk0.cells5
 have fr0:=hk0.frozen 0
 have fr1:=hk0.frozen 1
 have fr2:=hk0.frozen 2
 have fr3:=hk0.frozen 3
 have fr4:=hk0.frozen 4
 go_wp2_with fail
 refine bodyPost_ret (D8 rfl _ _ w.heap.size 128 (BT ⟨1,p,0⟩ 0 0) _ rfl ?_ Tryz.underlying128 (by kernel_rfl)) rfl ⟨rfl,?_⟩
 ·exact((((((hk0.far (by simp only;omega) _).set_ 0 _).set_ 1 _).set_ 2 _).set_ 3 _).set_ 4 _)
 ·exact((((((hB3.setCell (by simp only;omega) _).setCell (by simp only;omega) _).setCell (by simp only;omega) _).setCell (by simp only;omega) _).setCell (by simp only;omega) _).setCell (by simp only;omega) _)
set_option maxHeartbeats 1000000 in
theorem Q0J(w:World)(A:Nat->Addr)(m:Int)(hL:Lx w A m)(p:List UInt8)(hp:40<p.length):Calls Tryz.prog 74 #[.int .i64 1,.string (str p)] w (TG w A (⟨0,[],0⟩,3)):=by
 have hz:(str p).size=p.length:=BM p
 have hp':(40:Int)<(p.length:Int):=by omega
 have hk0:=HG w 1
 have hk1:=HZ w 1
 have hb0:=DR w 1
 go_enter Tryz.func74,Tryz.ntmps74
 go_wp2_with fail
 obtain⟨w3,hw3⟩:∃ w3,w3=QR w 1:=⟨_,rfl⟩
 have hB3:=hb0
 rw[<- hw3]at hk0 hk1 hB3
 have f1:=hk1.frozen 1
 have f2:=hk1.frozen 2
 obtain⟨c0,c1,c2,c3,c4⟩:=hk1.cells5
 obtain⟨r0,r1,r2,r3,r4⟩:=hk0.cells5
 have fr0:=hk0.frozen 0
 have fr1:=hk0.frozen 1
 have fr2:=hk0.frozen 2
 have fr3:=hk0.frozen 3
 have fr4:=hk0.frozen 4
 show Code.wp Tryz.prog _ _ _ (QR w 1)
 rw[<- hw3]
 clear hw3
 clear hb0
 have hlt:=World.block_lt_of_cell? w ⟨0,0,none⟩ hL.long
 have hlong:=(hB3.cell (p:=⟨0,0,none⟩) hlt).trans hL.long
 have hB5:=(((((hB3.setCell (p:=⟨w.heap.size,0,none⟩) (Nat.le_refl _) (.int .i64 0)).setCell (p:=⟨w.heap.size,1,none⟩) (Nat.le_refl _) (.string ⟨#[]⟩)).setCell (p:=⟨w.heap.size,2,none⟩) (Nat.le_refl _) (.int .i64 0)).setCell (p:=⟨w.heap.size,3,none⟩) (Nat.le_refl _) (.int .i64 0)).setCell (p:=⟨w.heap.size,4,none⟩) (Nat.le_refl _) (.int .i64 0))
 have hS1:=(hB5.cell (p:=⟨0,0,none⟩) hlt).trans hL.long
 have hlongd:w3.drew.cell? ⟨0,0,none⟩=some (errV A 2):=hlong
 have hS1d:(((((w3.setCell ⟨w.heap.size,0,none⟩ (.int .i64 0)).setCell ⟨w.heap.size,1,none⟩ (.string ⟨#[]⟩)).setCell ⟨w.heap.size,2,none⟩ (.int .i64 0)).setCell ⟨w.heap.size,3,none⟩ (.int .i64 0)).setCell ⟨w.heap.size,4,none⟩ (.int .i64 0)).drew.cell? ⟨0,0,none⟩=some (errV A 2):=UV hS1
 have hk5:=(((((hk0.set_ 0 (.int .i64 0)).set_ 1 (.string ⟨#[]⟩)).set_ 2 (.int .i64 0)).set_ 3 (.int .i64 0)).set_ 4 (.int .i64 0))
 go_region_held3 (fun w'=>w'.cell? ⟨0,0,none⟩=some (errV A 2)) (first | with_reducible exact hlong | with_reducible exact hlongd | with_reducible exact hS1 | with_reducible exact hS1d) (fail)
 all_goals
  go_wp2_with fail
  refine bodyPost_ret (D8 rfl _ _ w.heap.size 128 _ _ rfl hk5.drew Tryz.underlying128 (by kernel_rfl)) rfl ⟨rfl,AV hB5 1⟩
set_option maxHeartbeats 1000000 in
theorem Q3l(w:World)(A:Nat->Addr)(m:Int)(hL:Lx w A m)(p:List UInt8)(h0:0<p.length)(hl:p.length<1000000000)(hok:(M9 p).2=0):Calls Tryz.prog 74 #[.int .i64 2,.string (str p)] w (TG w A (⟨2,p,(M9 p).1⟩,0)):=by
 have HN:=Lib.hid (S7 (QR w 2) A m (hL.below (DR w 2)) p h0 hl)
 unfold Q0Y at HN
 rw[hok]at HN
 generalize(M9 p).1=n at *
 have hk0:=HG w 2
 have hk1:=HZ w 2
 have hb0:=DR w 2
 go_enter Tryz.func74,Tryz.ntmps74
 go_wp2_with fail
 refine HN.out.mono ?_
 rintro e w2 ⟨rfl,hb2⟩
 replace hk0:=hk0.kept hb2
 replace hk1:=hk1.kept hb2
 replace hb0:=hb0.trans (hb2.mono hb0.size)
 have g2:=hk1.frozen 2
 obtain⟨d0,d1,d2,d3,d4⟩:=hk1.cells5
 rw[show FV A 0=Value.nilIface from rfl]
 go_wp2_with fail
 obtain⟨w3',hw3'⟩:∃ w3',w3'=w2.setCell ⟨w.heap.size+1,2,none⟩ (.int .i64 (n:Int)):=⟨_,rfl⟩
 replace hk0:Blk w3' w.heap.size _ _:=hw3'▸hk0.far (p:=⟨w.heap.size+1,2,none⟩) (by simp only;omega) (.int .i64 (n:Int))
 replace hk1:Blk w3' (w.heap.size+1) _ _:=hw3'▸hk1.set_ 2 (.int .i64 (n:Int))
 replace hb0:Below w.heap.size w w3':=hw3'▸hb0.setCell (p:=⟨w.heap.size+1,2,none⟩) (by simp only;omega) (.int .i64 (n:Int))
 rw[<- hw3']
 clear hw3' g2 d0 d1 d2 d3 d4 hb2
 refine(GR w3' p (by omega)).mono ?_
 rintro e w3 ⟨rfl,hb3⟩
 replace hk0:=hk0.kept hb3
 replace hk1:=hk1.kept hb3
 have hB3:=hb0.trans (hb3.mono hb0.size)
 have f1:=hk1.frozen 1
 have f2:=hk1.frozen 2
 obtain⟨c0,c1,c2,c3,c4⟩:=hk1.cells5
 obtain⟨r0,r1,r2,r3,r4⟩:=hk0.cells5
 have fr0:=hk0.frozen 0
 have fr1:=hk0.frozen 1
 have fr2:=hk0.frozen 2
 have fr3:=hk0.frozen 3
 have fr4:=hk0.frozen 4
 go_wp2_with fail
 refine bodyPost_ret (D8 rfl _ _ w.heap.size 128 (BT ⟨2,p,n⟩ 0 0) _ rfl ?_ Tryz.underlying128 (by kernel_rfl)) rfl ⟨rfl,?_⟩
 ·exact((((((hk0.far (by simp only;omega) _).set_ 0 _).set_ 1 _).set_ 2 _).set_ 3 _).set_ 4 _)
 ·exact((((((hB3.setCell (by simp only;omega) _).setCell (by simp only;omega) _).setCell (by simp only;omega) _).setCell (by simp only;omega) _).setCell (by simp only;omega) _).setCell (by simp only;omega) _)
set_option maxHeartbeats 1000000 in
theorem Q3r(w:World)(A:Nat->Addr)(m:Int)(hL:Lx w A m)(p:List UInt8)(h0:0<p.length)(hl:p.length<1000000000)(b:Nat)(hbad:(M9 p).2=b+1):Calls Tryz.prog 74 #[.int .i64 2,.string (str p)] w (TG w A (⟨0,[],0⟩,b+1)):=by
 have HN:=Lib.hid (S7 (QR w 2) A m (hL.below (DR w 2)) p h0 hl)
 unfold Q0Y at HN
 rw[hbad,show FV A (b+1)=errV A b from rfl]at HN
 have hne:=NG A b
 generalize(M9 p).1=n at *
 have hk0:=HG w 2
 have hk1:=HZ w 2
 have hb0:=DR w 2
 go_enter Tryz.func74,Tryz.ntmps74
 go_wp2_with fail
 refine HN.out.mono ?_
 rintro e w3 ⟨rfl,hb3⟩
 replace hk0:=hk0.kept hb3
 replace hk1:=hk1.kept hb3
 have hB3:=hb0.trans (hb3.mono hb0.size)
 have f1:=hk1.frozen 1
 have f2:=hk1.frozen 2
 obtain⟨c0,c1,c2,c3,c4⟩:=hk1.cells5
 obtain⟨r0,r1,r2,r3,r4⟩:=hk0.cells5
 have fr0:=hk0.frozen 0
 have fr1:=hk0.frozen 1
 have fr2:=hk0.frozen 2
 have fr3:=hk0.frozen 3
 have fr4:=hk0.frozen 4
 go_wp2_with fail
 have hB5:=(((((hB3.setCell (p:=⟨w.heap.size,0,none⟩) (Nat.le_refl _) (.int .i64 0)).setCell (p:=⟨w.heap.size,1,none⟩) (Nat.le_refl _) (.string ⟨#[]⟩)).setCell (p:=⟨w.heap.size,2,none⟩) (Nat.le_refl _) (.int .i64 0)).setCell (p:=⟨w.heap.size,3,none⟩) (Nat.le_refl _) (.int .i64 0)).setCell (p:=⟨w.heap.size,4,none⟩) (Nat.le_refl _) (.int .i64 0))
 have hk5:=(((((hk0.set_ 0 (.int .i64 0)).set_ 1 (.string ⟨#[]⟩)).set_ 2 (.int .i64 0)).set_ 3 (.int .i64 0)).set_ 4 (.int .i64 0))
 refine bodyPost_ret (D8 rfl _ _ w.heap.size 128 _ _ rfl hk5 Tryz.underlying128 (by kernel_rfl)) rfl ⟨rfl,hB5⟩
set_option maxHeartbeats 1000000 in
theorem Q0K(w:World)(A:Nat->Addr)(p:List UInt8)(h2:2<=p.length)(hl:p.length<1000000000)(hb:decide ((92:UInt8)∈(p.drop 1).take (p.length-2)\/(10:UInt8)∈(p.drop 1).take (p.length-2))=false):
  Calls Tryz.prog 74 #[.int .i64 3,.string (str p)] w (TG w A (⟨3,(p.drop 1).take (p.length-2),0⟩,0)):=by
 have hz:(str p).size=p.length:=BM p
 have hmid:∀ u,(Instr.slice 9 (.string (str p)) (some (.int .i64 1)) (some (.int .i64 ((p.length:Int)-1))) none).run Tryz.prog u=.ok (.string (str ((p.drop 1).take (p.length-2)))) u:=fun u=>by
  have h:=Q1z p 1 (p.length-1) (by omega) (by omega) u
  rw[show p.length-1-1=p.length-2 by omega,show((p.length-1:Nat):Int)=(p.length:Int)-1 by omega]at h
  exact h
 obtain⟨q,hq⟩:∃ q,q=(p.drop 1).take (p.length-2):=⟨_,rfl⟩
 rw[<- hq]at hmid hb  ⊢
 have hql:q.length<1000000000:=by rw[hq,List.length_take];omega
 clear hq
 have HC:=Lib.hid (JU (QR w 3) q hql)
 rw[hb]at HC
 clear hb
 have hk0:=HG w 3
 have hk1:=HZ w 3
 have hb0:=DR w 3
 go_enter Tryz.func74,Tryz.ntmps74
 go_wp2_with fail
 refine HC.out.mono ?_
 rintro e w2 ⟨rfl,hb2⟩
 replace hk0:=hk0.kept hb2
 replace hk1:=hk1.kept hb2
 replace hb0:=hb0.trans (hb2.mono hb0.size)
 go_wp2_with fail
 refine(GR w2 q (by omega)).mono ?_
 rintro e w3 ⟨rfl,hb3⟩
 replace hk0:=hk0.kept hb3
 replace hk1:=hk1.kept hb3
 have hB3:=hb0.trans (hb3.mono hb0.size)
 have f1:=hk1.frozen 1
 have f2:=hk1.frozen 2
 obtain⟨c0,c1,c2,c3,c4⟩:=hk1.cells5
 obtain⟨r0,r1,r2,r3,r4⟩:=hk0.cells5
 have fr0:=hk0.frozen 0
 have fr1:=hk0.frozen 1
 have fr2:=hk0.frozen 2
 have fr3:=hk0.frozen 3
 have fr4:=hk0.frozen 4
 go_wp2_with fail
 refine bodyPost_ret (D8 rfl _ _ w.heap.size 128 (BT ⟨3,q,0⟩ 0 0) _ rfl ?_ Tryz.underlying128 (by kernel_rfl)) rfl ⟨rfl,?_⟩
 ·exact((((((hk0.far (by simp only;omega) _).set_ 0 _).set_ 1 _).set_ 2 _).set_ 3 _).set_ 4 _)
 ·exact((((((hB3.setCell (by simp only;omega) _).setCell (by simp only;omega) _).setCell (by simp only;omega) _).setCell (by simp only;omega) _).setCell (by simp only;omega) _).setCell (by simp only;omega) _)
set_option maxHeartbeats 1000000 in
theorem X1(w:World)(A:Nat->Addr)(m:Int)(hL:Lx w A m)(p:List UInt8)(h2:2<=p.length)(hl:p.length<1000000000)(hb:decide ((92:UInt8)∈(p.drop 1).take (p.length-2)\/(10:UInt8)∈(p.drop 1).take (p.length-2))=true):
  Calls Tryz.prog 74 #[.int .i64 3,.string (str p)] w (TG w A (⟨0,[],0⟩,9)):=by
 have hz:(str p).size=p.length:=BM p
 have hmid:∀ u,(Instr.slice 9 (.string (str p)) (some (.int .i64 1)) (some (.int .i64 ((p.length:Int)-1))) none).run Tryz.prog u=.ok (.string (str ((p.drop 1).take (p.length-2)))) u:=fun u=>by
  have h:=Q1z p 1 (p.length-1) (by omega) (by omega) u
  rw[show p.length-1-1=p.length-2 by omega,show((p.length-1:Nat):Int)=(p.length:Int)-1 by omega]at h
  exact h
 obtain⟨q,hq⟩:∃ q,q=(p.drop 1).take (p.length-2):=⟨_,rfl⟩
 rw[<- hq]at hmid hb
 have hql:q.length<1000000000:=by rw[hq,List.length_take];omega
 clear hq
 have HC:=Lib.hid (JU (QR w 3) q hql)
 rw[hb]at HC
 clear hb
 have hk0:=HG w 3
 have hk1:=HZ w 3
 have hb0:=DR w 3
 go_enter Tryz.func74,Tryz.ntmps74
 go_wp2_with fail
 refine HC.out.mono ?_
 rintro e w3 ⟨rfl,hb3⟩
 replace hk0:=hk0.kept hb3
 replace hk1:=hk1.kept hb3
 have hB3:=hb0.trans (hb3.mono hb0.size)
 have f1:=hk1.frozen 1
 have f2:=hk1.frozen 2
 obtain⟨c0,c1,c2,c3,c4⟩:=hk1.cells5
 obtain⟨r0,r1,r2,r3,r4⟩:=hk0.cells5
 have fr0:=hk0.frozen 0
 have fr1:=hk0.frozen 1
 have fr2:=hk0.frozen 2
 have fr3:=hk0.frozen 3
 have fr4:=hk0.frozen 4
 go_wp2_with fail
 have hlt:=World.block_lt_of_cell? w ⟨1,0,none⟩ hL.form
 have hlong:=(hB3.cell (p:=⟨1,0,none⟩) hlt).trans hL.form
 have hB5:=(((((hB3.setCell (p:=⟨w.heap.size,0,none⟩) (Nat.le_refl _) (.int .i64 0)).setCell (p:=⟨w.heap.size,1,none⟩) (Nat.le_refl _) (.string ⟨#[]⟩)).setCell (p:=⟨w.heap.size,2,none⟩) (Nat.le_refl _) (.int .i64 0)).setCell (p:=⟨w.heap.size,3,none⟩) (Nat.le_refl _) (.int .i64 0)).setCell (p:=⟨w.heap.size,4,none⟩) (Nat.le_refl _) (.int .i64 0))
 have hS1:=(hB5.cell (p:=⟨1,0,none⟩) hlt).trans hL.form
 have hlongd:w3.drew.cell? ⟨1,0,none⟩=some (errV A 8):=hlong
 have hS1d:(((((w3.setCell ⟨w.heap.size,0,none⟩ (.int .i64 0)).setCell ⟨w.heap.size,1,none⟩ (.string ⟨#[]⟩)).setCell ⟨w.heap.size,2,none⟩ (.int .i64 0)).setCell ⟨w.heap.size,3,none⟩ (.int .i64 0)).setCell ⟨w.heap.size,4,none⟩ (.int .i64 0)).drew.cell? ⟨1,0,none⟩=some (errV A 8):=UV hS1
 have hk5:=(((((hk0.set_ 0 (.int .i64 0)).set_ 1 (.string ⟨#[]⟩)).set_ 2 (.int .i64 0)).set_ 3 (.int .i64 0)).set_ 4 (.int .i64 0))
 go_region_held3 (fun w'=>w'.cell? ⟨1,0,none⟩=some (errV A 8)) (first | with_reducible exact hlong | with_reducible exact hlongd | with_reducible exact hS1 | with_reducible exact hS1d) (fail)
 all_goals
  go_wp2_with fail
  refine bodyPost_ret (D8 rfl _ _ w.heap.size 128 _ _ rfl hk5.drew Tryz.underlying128 (by kernel_rfl)) rfl ⟨rfl,AV hB5 1⟩
set_option maxHeartbeats 1000000 in
theorem Q1e(w:World)(A:Nat->Addr)(p:List UInt8)(hl:p.length<1000000000):Calls Tryz.prog 74 #[.int .i64 4,.string (str p)] w (TG w A (⟨4,p,0⟩,0)):=by
 have hk0:=HG w 4
 have hk1:=HZ w 4
 have hb0:=DR w 4
 go_enter Tryz.func74,Tryz.ntmps74
 go_wp2_with fail
 refine(GR (QR w 4) p (by omega)).mono ?_
 rintro e w3 ⟨rfl,hb3⟩
 replace hk0:=hk0.kept hb3
 replace hk1:=hk1.kept hb3
 have hB3:=hb0.trans (hb3.mono hb0.size)
 have f1:=hk1.frozen 1
 have f2:=hk1.frozen 2
 obtain⟨c0,c1,c2,c3,c4⟩:=hk1.cells5
 obtain⟨r0,r1,r2,r3,r4⟩:=hk0.cells5
 have fr0:=hk0.frozen 0
 have fr1:=hk0.frozen 1
 have fr2:=hk0.frozen 2
 have fr3:=hk0.frozen 3
 have fr4:=hk0.frozen 4
 go_wp2_with fail
 refine bodyPost_ret (D8 rfl _ _ w.heap.size 128 (BT ⟨4,p,0⟩ 0 0) _ rfl ?_ Tryz.underlying128 (by kernel_rfl)) rfl ⟨rfl,?_⟩
 ·exact((((((hk0.far (by simp only;omega) _).set_ 0 _).set_ 1 _).set_ 2 _).set_ 3 _).set_ 4 _)
 ·exact((((((hB3.setCell (by simp only;omega) _).setCell (by simp only;omega) _).setCell (by simp only;omega) _).setCell (by simp only;omega) _).setCell (by simp only;omega) _).setCell (by simp only;omega) _)
theorem Q2b(l:List UInt8):(lcut l).1<=4:=by
 unfold lcut
 repeat' split
 all_goals simp
theorem Q2R{l:List UInt8}(h0:0<l.length)(hk:(lcut l).1=3)(h:(lcut l).2.2=0):2<=(lcut l).2.1:=by
 have h1:=fun h=>JR (k:=1) (e:=[l.headD 0]) (l:=l) (by omega) h
 unfold lcut at hk h ⊢
 repeat' split at hk
 all_goals (first | (exfalso;simp at hk;done) | skip)
 rename_i a b c d e f
 rw[if_neg a,if_neg b,if_neg c,if_neg d,if_neg e,if_pos f]at h ⊢
 have:=(h1 h).1
 simp only[List.length_cons,List.length_nil]at this
 simp only
 omega
theorem Q2Z(w:World)(A:Nat->Addr)(m:Int)(hL:Lx w A m)(k:Nat)(p:List UInt8)(hk:k<=4)(h0:k=2->0<p.length)(h2:k=3->2<=p.length)(hl:p.length<1000000000):
  Calls Tryz.prog 74 #[.int .i64 (k:Int),.string (str p)] w (TG w A (DK k p)):=by
 unfold DK
 match k,hk with
 | 0,_=>exact Q2M w A p
 | 1,_=>
  rw[if_neg (by omega),if_pos rfl]
  by_cases h:40<p.length
  ·rw[if_pos h];exact Q0J w A m hL p h
  ·rw[if_neg h];exact Q0v w A p h
 | 2,_=>
  rw[if_neg (by omega),if_neg (by omega),if_pos rfl]
  by_cases h:(M9 p).2=0
  ·rw[if_pos h];exact Q3l w A m hL p (h0 rfl) hl h
  ·rw[if_neg h]
   obtain⟨b,hb⟩:∃ b,(M9 p).2=b+1:=⟨(M9 p).2-1,by omega⟩
   rw[hb]
   exact Q3r w A m hL p (h0 rfl) hl b hb
 | 3,_=>
  rw[if_neg (by omega),if_neg (by omega),if_neg (by omega),if_pos rfl]
  by_cases h:(92:UInt8)∈(p.drop 1).take (p.length-2)\/(10:UInt8)∈(p.drop 1).take (p.length-2)
  ·rw[if_pos h];exact X1 w A m hL p (h2 rfl) hl (decide_eq_true h)
  ·rw[if_neg h];exact Q0K w A p (h2 rfl) hl (decide_eq_false h)
 | 4,_=>
  rw[if_neg (by omega),if_neg (by omega),if_neg (by omega),if_neg (by omega)]
  exact Q1e w A p hl
def X0(w:World)(A:Nat->Addr)(r:Tok×Nat×Nat)(e:Ending)(w':World):Prop:=
 e=.returned (.tuple #[Q0P r.1,.int .i64 (r.2.1:Int),FV A r.2.2])/\Below w.heap.size w w'
set_option maxHeartbeats 1000000 in
theorem OJ(w:World)(A:Nat->Addr)(m:Int)(hL:Lx w A m)(l:List UInt8)(h0:0<l.length)(hl:l.length<1000000000):
  Calls Tryz.prog 45 #[.string (str l)] w (X0 w A (lfirst l)):=by
 obtain⟨w1,hw1⟩:∃ w1,w1=w.alloc (.cells (BT ⟨0,[],0⟩ 0 0).toArray 128):=⟨_,rfl⟩
 have hk1:Blk w1 w.heap.size 128 (BT ⟨0,[],0⟩ 0 0):=hw1▸Blk.new w _ _
 have hb1:Below w.heap.size w w1:=hw1▸(Below.refl _ _).alloc (Nat.le_refl _) _
 have HC:=Lib.hid (Q6d w1 A m (hL.below hb1) l h0 hl)
 have hkind:=Q2b l
 have hsz:=fun h=>OM (l:=l) h0 h
 have htx:=fun hk h=>Q2R (l:=l) h0 hk h
 unfold TA at HC
 unfold lfirst
 generalize lcut l=C at *
 obtain⟨k,s,b⟩:=C
 simp only at HC hkind hsz htx ⊢
 by_cases hb:b=0
 ·subst hb
  rw[if_neg (by omega)]
  obtain⟨hs0,hs1⟩:=hsz rfl
  have hup:=NP l s hs1
  rw[show FV A 0=Value.nilIface from rfl]at HC
  have HT:=Lib.hid (fun(u:World) (hu:Lx u A m)=>Q2Z u A m hu k (l.take s) hkind (fun _=>by rw[List.length_take];omega) (fun hk=>by have:=htx hk rfl;rw[List.length_take];omega) (by rw[List.length_take];omega))
  unfold TG at HT
  generalize DK k (l.take s)=T at *
  obtain⟨t,c⟩:=T
  simp only at HT ⊢
  clear hsz htx hkind
  by_cases hc:c=0
  ·subst hc
   rw[if_neg (by omega)]
   rw[show FV A 0=Value.nilIface from rfl]at HT
   go_enter Tryz.func45,Tryz.ntmps45
   go_wp2_with fail
   rw[hw1]at HC
   refine HC.out.mono ?_
   rintro e w2 ⟨rfl,hb2⟩
   rw[<- hw1]at hb2
   clear HC
   replace hk1:=hk1.kept hb2
   have hB2:=hb1.trans (hb2.mono hb1.size)
   clear hw1
   go_wp2_with fail
   refine(HT.out w2 (hL.below hB2)).mono ?_
   rintro e w3 ⟨rfl,hb3⟩
   replace hk1:=hk1.kept hb3
   have hB3:=hB2.trans (hb3.mono hB2.size)
   obtain⟨r0,r1,r2,r3,r4⟩:=hk1.cells5
   have fr0:=hk1.frozen 0
   have fr1:=hk1.frozen 1
   have fr2:=hk1.frozen 2
   have fr3:=hk1.frozen 3
   have fr4:=hk1.frozen 4
   unfold Q0P BT
   go_wp2_with fail
   refine bodyPost_ret (JC rfl _ _ w.heap.size _ _ _ rfl ((((((((((hk1.set_ 0 _).set_ 1 _).set_ 2 _).set_ 3 _).set_ 4 _).set_ 0 _).set_ 1 _).set_ 2 _).set_ 3 _).set_ 4 _) Tryz.underlying128 (by kernel_rfl)) rfl ⟨rfl,((((((((((hB3.setCell (p:=⟨w.heap.size,0,none⟩) (Nat.le_refl _) _).setCell (p:=⟨w.heap.size,1,none⟩) (Nat.le_refl _) _).setCell (p:=⟨w.heap.size,2,none⟩) (Nat.le_refl _) _).setCell (p:=⟨w.heap.size,3,none⟩) (Nat.le_refl _) _).setCell (p:=⟨w.heap.size,4,none⟩) (Nat.le_refl _) _).setCell (p:=⟨w.heap.size,0,none⟩) (Nat.le_refl _) _).setCell (p:=⟨w.heap.size,1,none⟩) (Nat.le_refl _) _).setCell (p:=⟨w.heap.size,2,none⟩) (Nat.le_refl _) _).setCell (p:=⟨w.heap.size,3,none⟩) (Nat.le_refl _) _).setCell (p:=⟨w.heap.size,4,none⟩) (Nat.le_refl _) _)⟩
  ·obtain⟨c,rfl⟩:∃ d,c=d+1:=⟨c-1,by omega⟩
   rw[if_pos (by omega)]
   rw[show FV A (c+1)=errV A c from rfl]at HT
   have hne:=NG A c
   go_enter Tryz.func45,Tryz.ntmps45
   go_wp2_with fail
   rw[hw1]at HC
   refine HC.out.mono ?_
   rintro e w2 ⟨rfl,hb2⟩
   rw[<- hw1]at hb2
   clear HC
   replace hk1:=hk1.kept hb2
   have hB2:=hb1.trans (hb2.mono hb1.size)
   clear hw1
   go_wp2_with fail
   refine(HT.out w2 (hL.below hB2)).mono ?_
   rintro e w3 ⟨rfl,hb3⟩
   replace hk1:=hk1.kept hb3
   have hB3:=hB2.trans (hb3.mono hB2.size)
   obtain⟨r0,r1,r2,r3,r4⟩:=hk1.cells5
   have fr0:=hk1.frozen 0
   have fr1:=hk1.frozen 1
   have fr2:=hk1.frozen 2
   have fr3:=hk1.frozen 3
   have fr4:=hk1.frozen 4
   unfold Q0P BT
   go_wp2_with fail
   refine bodyPost_ret (JC rfl _ _ w.heap.size _ _ _ rfl ((((((((((hk1.set_ 0 _).set_ 1 _).set_ 2 _).set_ 3 _).set_ 4 _).set_ 0 _).set_ 1 _).set_ 2 _).set_ 3 _).set_ 4 _) Tryz.underlying128 (by kernel_rfl)) rfl ⟨rfl,((((((((((hB3.setCell (p:=⟨w.heap.size,0,none⟩) (Nat.le_refl _) _).setCell (p:=⟨w.heap.size,1,none⟩) (Nat.le_refl _) _).setCell (p:=⟨w.heap.size,2,none⟩) (Nat.le_refl _) _).setCell (p:=⟨w.heap.size,3,none⟩) (Nat.le_refl _) _).setCell (p:=⟨w.heap.size,4,none⟩) (Nat.le_refl _) _).setCell (p:=⟨w.heap.size,0,none⟩) (Nat.le_refl _) _).setCell (p:=⟨w.heap.size,1,none⟩) (Nat.le_refl _) _).setCell (p:=⟨w.heap.size,2,none⟩) (Nat.le_refl _) _).setCell (p:=⟨w.heap.size,3,none⟩) (Nat.le_refl _) _).setCell (p:=⟨w.heap.size,4,none⟩) (Nat.le_refl _) _)⟩
 ·obtain⟨b,rfl⟩:∃ d,b=d+1:=⟨b-1,by omega⟩
  rw[if_pos (by omega)]
  rw[show FV A (b+1)=errV A b from rfl]at HC
  have hne:=NG A b
  go_enter Tryz.func45,Tryz.ntmps45
  go_wp2_with fail
  rw[hw1]at HC
  refine HC.out.mono ?_
  rintro e w2 ⟨rfl,hb2⟩
  rw[<- hw1]at hb2
  clear HC
  replace hk1:=hk1.kept hb2
  have hB2:=hb1.trans (hb2.mono hb1.size)
  clear hw1
  obtain⟨r0,r1,r2,r3,r4⟩:=hk1.cells5
  have fr0:=hk1.frozen 0
  have fr1:=hk1.frozen 1
  have fr2:=hk1.frozen 2
  have fr3:=hk1.frozen 3
  have fr4:=hk1.frozen 4
  go_wp2_with fail
  refine bodyPost_ret (JC rfl _ _ w.heap.size _ _ _ rfl (((((hk1.set_ 0 _).set_ 1 _).set_ 2 _).set_ 3 _).set_ 4 _) Tryz.underlying128 (by kernel_rfl)) rfl ⟨rfl,(((((hB2.setCell (p:=⟨w.heap.size,0,none⟩) (Nat.le_refl _) _).setCell (p:=⟨w.heap.size,1,none⟩) (Nat.le_refl _) _).setCell (p:=⟨w.heap.size,2,none⟩) (Nat.le_refl _) _).setCell (p:=⟨w.heap.size,3,none⟩) (Nat.le_refl _) _).setCell (p:=⟨w.heap.size,4,none⟩) (Nat.le_refl _) _)⟩
theorem YO(p:Nat×Nat){l:List UInt8}{j:Nat}{b:UInt8}(h:l[j]?=some b):CG p (l.take (j+1))=if b=10 then((CG p (l.take j)).1+1,1)else((CG p (l.take j)).1,(CG p (l.take j)).2+1):=by
 rw[show l.take (j+1)=l.take j++[b] from by rw[List.take_add_one,h];rfl,XN]
theorem VW(p:Nat×Nat){l:List UInt8}{j:Nat}{b:UInt8}(h:l[j]?=some b)(a c:Int)(ha:a=((CG p (l.take j)).1:Int))(hc:c=((CG p (l.take j)).2:Int)):
  ((b.toNat:Int)=10->((CG p (l.take (j+1))).1:Int)=a+1/\((CG p (l.take (j+1))).2:Int)=1)/\(¬ (b.toNat:Int)=10->((CG p (l.take (j+1))).1:Int)=a/\((CG p (l.take (j+1))).2:Int)=c+1):=by
 rw[YO p h]
 constructor
 ·intro hb
  have:b=10:=UInt8.toNat_inj.1 (by simp;omega)
  rw[if_pos this]
  exact⟨by simp only;omega,by simp⟩
 ·intro hb
  have:¬ b=10:=by rintro rfl;exact hb rfl
  rw[if_neg this]
  exact⟨by simp only;omega,by simp only;omega⟩
theorem SI(w:World)(p:Nat×Nat)(l:List UInt8)(hl:l.length<1000000000)(h1:p.1<1000000000)(h2:p.2<1000000000):
  Calls Tryz.prog 46 #[.int .i64 (p.1:Int),.int .i64 (p.2:Int),.string (str l)] w (Ans (.tuple #[.int .i64 ((CG p l).1:Int),.int .i64 ((CG p l).2:Int)]) w):=by
 have hz:(str l).size=l.length:=BM l
 have hle:=fun j=>L3 (l.take j) p
 have HLE:=Lib.hid hle
 clear hle
 go_enter Tryz.func46,Tryz.ntmps46
 go_wp2_with fail
 go_loopg [11,0,1] l.length (fun g i li co wx=>∃ (j:Nat) (a c:Int),j+g=l.length/\i=.int .i64 (j:Int)/\li=.int .i64 a/\co=.int .i64 c/\Hid (a=((CG p (l.take j)).1:Int))/\Hid (c=((CG p (l.take j)).2:Int))/\wx=w)
 case atStart=>exact⟨0,p.1,p.2,by omega,rfl,rfl,rfl,Lib.hid rfl,Lib.hid rfl,rfl⟩
 case round=>
  obtain⟨j,a,c,hj,rfl,rfl,rfl,HA,HC,rfl⟩:=hrel
  have hb1:0<=a/\a<2000000002/\0<=c/\c<2000000002:=by
   have h:=HLE.out j
   have h3:=HA.out
   have h4:=HC.out
   rw[List.length_take]at h
   omega
  obtain⟨ha0,ha1,hc0,hc1⟩:=hb1
  cases gk with
  | zero=>
   obtain rfl:j=l.length:=by omega
   have hlt:¬ ((l.length:Int)<(l.length:Int)):=by omega
   go_wp2_with fail
   go_ret2
   exact⟨by rw[HA.out,HC.out,List.take_length];rfl,rfl⟩
  | succ g=>
   have hlt:(j:Int)<(l.length:Int):=by omega
   have hjl:j<l.length:=by omega
   have hix:=C7 l j hjl
   obtain⟨b,hb⟩:∃ b,l[j]=b:=⟨_,rfl⟩
   rw[hb]at hix
   have HR:=Lib.hid (VW p (l:=l) (j:=j) (b:=b) (by rw[List.getElem?_eq_getElem hjl,hb]) a c HA.out HC.out)
   clear hb
   generalize(b.toNat:Int)=B at *
   by_cases h10:B=10
   ·obtain⟨R1,R2⟩:=HR.out.1 h10
    have HR1:=Lib.hid R1
    have HR2:=Lib.hid R2
    clear R1 R2
    subst h10
    go_wp2_with fail
    go_roundg g
    case measure=>omega
    case rel=>exact⟨j+1,a+1,1,by omega,by go_num,by go_num,rfl,Lib.hid HR1.out.symm,Lib.hid HR2.out.symm,rfl⟩
   ·obtain⟨R1,R2⟩:=HR.out.2 h10
    have HR1:=Lib.hid R1
    have HR2:=Lib.hid R2
    clear R1 R2
    go_wp2_with fail
    go_roundg g
    case measure=>omega
    case rel=>exact⟨j+1,a,c+1,by omega,by go_num,rfl,by go_num,Lib.hid HR1.out.symm,Lib.hid HR2.out.symm,rfl⟩
def Rk(k:Nat)(w:World)(B:Nat)(p:Option Addr)(rs:List (List Value)):Prop:=
 0<rs.length -> ∃ b o,p=some ⟨b,o,none⟩/\b<B /\ ∀ (i:Nat) (r:List Value),rs[i]?=some r -> ∀ (j:Nat) (v:Value),r[j]?=some v->w.cell? ⟨b,o+i*k+j,none⟩=some v
theorem Rk.nil(k:Nat)(w:World)(B:Nat)(p:Option Addr):Rk k w B p []:=fun h=>absurd h (Nat.lt_irrefl 0)
theorem Rk.more{k B B':Nat}{w:World}{p:Option Addr}{rs:List (List Value)}(h:Rk k w B p rs)(hB:B<=B'):Rk k w B' p rs:=fun hl=>by
 obtain⟨b,o,e,hb,hc⟩:=h hl
 exact⟨b,o,e,by omega,hc⟩
theorem Rk.below{k B:Nat}{w w':World}{p:Option Addr}{rs:List (List Value)}(h:Rk k w B p rs)(hb:Below B w w'):Rk k w' B p rs:=fun hl=>by
 obtain⟨b,o,e,hlt,hc⟩:=h hl
 exact⟨b,o,e,hlt,fun i r hr j v hv=>(hb.cell (p:=⟨b,o+i*k+j,none⟩) hlt).trans (hc i r hr j v hv)⟩
theorem SV{w w':World}{base:Nat}{e:TypeId}{size:Nat}{v:Value}{n:Nat}{xs:List Value}(h:w.ownsRow base e size v n xs)(hb:Below w.heap.size w w'):w'.ownsRow base e size v n xs:=by
 obtain⟨h1,h2⟩:=h
 refine⟨h1,?_⟩
 rcases h2 with h2 | ⟨g,cap,cur,hv,hg,hh,hr⟩
 ·exact .inl h2
 ·exact .inr ⟨g,cap,cur,hv,hg,(hb.block g (Array.getElem?_eq_some_iff.1 hh).1).trans hh,hr⟩
def FZ(l:List UInt8)(x:Tok×Nat):List Value:=BT x.1 (BW l x.2).1 (BW l x.2).2
abbrev tF:TypeId:=124
def Q7u(w:World)(A:Nat->Addr)(l:List UInt8)(ts:List (Tok×Nat))(b ea:Nat)(e:Ending)(w':World):Prop:=
 Below w.heap.size w w'/\((b=0 /\ ∃ v,e=.returned (.tuple #[v,.nilIface])/\w'.ownsRow w.heap.size 128 5 v (ts.map (FZ l)).length (ts.map (FZ l)).flatten) \/
  (b≠0 /\ ∃ g,e=.returned (.tuple #[.slice none 0 0,.iface tF (.pointer (some ⟨g,0,none⟩))])/\w.heap.size<=g/\Blk w' g 126 [.int .i64 ((BW l ea).1:Int),.int .i64 ((BW l ea).2:Int),FV A b]))
theorem Q46{k:Nat}{p:List UInt8}(h:(DK k p).2=0):(DK k p).1.k=k:=by
 unfold DK at h ⊢
 split
 ·rename_i h1;exact h1.symm
 rename_i h1
 rw[if_neg h1]at h
 split
 ·rename_i h2
  rw[if_pos h2]at h
  split
  ·rename_i h3;rw[if_pos h3]at h;cases h
  ·exact h2.symm
 rename_i h2
 rw[if_neg h2]at h
 split
 ·rename_i h3
  rw[if_pos h3]at h
  split
  ·exact h3.symm
  ·rename_i h4;rw[if_neg h4]at h;exact absurd h h4
 rename_i h3
 rw[if_neg h3]at h
 split
 ·rename_i h4
  rw[if_pos h4]at h
  split
  ·rename_i h5;rw[if_pos h5]at h;cases h
  ·exact h4.symm
 ·rfl
theorem YZ{l:List UInt8}(h0:0<l.length)(h:(lfirst l).2.2=0):(lfirst l).1.k=(lcut l).1:=by
 have:=CZ h0 h
 rw[this.2.2.2.2.2,Q46 this.2.2.2.2.1]
theorem Lex.step{l:List UInt8}{i:Nat}{ts:List (Tok×Nat)}{b ea:Nat}(h:Lex l i ts b ea):
  (i=l.length/\ts=[]/\b=0)\/(i<l.length/\(lfirst (l.drop i)).2.2=b/\b≠0/\ts=[]/\ea=i) \/
  (i<l.length/\(lfirst (l.drop i)).2.2=0/\(lfirst (l.drop i)).1.k=0/\Lex l (i+(lfirst (l.drop i)).2.1) ts b ea) \/
  (i<l.length/\(lfirst (l.drop i)).2.2=0/\(lfirst (l.drop i)).1.k≠0 /\ ∃ ts',ts=((lfirst (l.drop i)).1,i)::ts'/\Lex l (i+(lfirst (l.drop i)).2.1) ts' b ea):=by
 cases h with
 | done h=>exact .inl ⟨h,rfl,rfl⟩
 | bad h1 h2=>exact .inr (.inl ⟨h1,rfl,h2,rfl,rfl⟩)
 | gap h1 h2 h3 h4=>exact .inr (.inr (.inl ⟨h1,h2,by rw[YZ (by rw[List.length_drop];omega) h2];exact h3,h4⟩))
 | tok h1 h2 h3 h4=>exact .inr (.inr (.inr ⟨h1,h2,by rw[YZ (by rw[List.length_drop];omega) h2];exact h3,_,rfl,h4⟩))
theorem Q4v(w:World)(t:TypeId)(cs:List Value)(g:Nat)(hg:g=w.heap.size):∀ (j:Nat) (u:Value),cs[j]?=some u->(w.alloc (.cells cs.toArray t)).cell? ((⟨g,0,none⟩:Addr).add j)=some u:=fun j u h=>by
 subst hg
 have hb:=Blk.new w t cs
 rw[Addr.add_lit,Nat.zero_add,hb.cell,h]
theorem Blk.new2(w:World)(o:Obj)(t:TypeId)(cs:List Value):Blk ((w.alloc o).alloc (.cells cs.toArray t)) (w.heap.size+1) t cs:=by
 have h:=Blk.new (w.alloc o) t cs
 rwa [show(w.alloc o).heap.size=w.heap.size+1 by simp]at h
theorem Q5x(t:Tok)(a c:Nat):∀ u∈BT t a c,u.oneCell'=true:=fun u h=>by
 simp only[BT,List.mem_cons,List.not_mem_nil,or_false]at h
 rcases h with rfl | rfl | rfl | rfl | rfl<;>rfl
theorem Q56:(Tryz.prog.info? 128).map (fun i=>(i.zero,i.size,i.bytes))=some (some (.agg #[.int .i64 0,.string .empty,.int .i64 0,.int .i64 0,.int .i64 0]),5,48):=by kernel_rfl
set_option maxHeartbeats 2000000 in
theorem Q2G(w:World)(A:Nat->Addr)(m:Int)(hL:Lx w A m)(l:List UInt8)(hl:l.length<=4000)(T:List (Tok×Nat))(b ea:Nat)(hT:Lex l 0 T b ea):
  Calls Tryz.prog 24 #[.string (str l)] w (Q7u w A l T b ea):=by
 obtain⟨i0,hi,hz0,hz1,hz2⟩:=info_parts Q56
 have hz:(str l).size=l.length:=BM l
 have hlen:¬ (4000:Int)<(l.length:Int):=by omega
 have hn:=CH
 have HT:=Lib.hid hT
 clear hT
 go_enter Tryz.func24,Tryz.ntmps24
 go_wp2_with fail
 go_loopg [7,4,5,6] l.length (fun g r v li co wx=>∃ (i:Nat) (out ts:List (Tok×Nat)),i+g=l.length/\out.length<=i/\r=.string (str (l.drop i))/\li=.int .i64 ((BW l i).1:Int)/\co=.int .i64 ((BW l i).2:Int)/\Hid (T=out++ts)/\Hid (Lex l i ts b ea)/\wx.ownsRow w.heap.size 128 5 v (out.map (FZ l)).length (out.map (FZ l)).flatten/\Below w.heap.size w wx)
 case atStart=>exact⟨0,[],T,by omega,by simp,rfl,rfl,rfl,Lib.hid rfl,HT,World.ownsRow_nil _ _ _ _,Below.refl _ _⟩
 case round=>
  obtain⟨i,out,ts,hig,hout,rfl,rfl,rfl,HO,HX,hown,hbr⟩:=hrel
  have hsz:=hbr.size
  rcases HX.out.step with⟨he,hts,hb⟩ | ⟨hlt,hb,hb0,hts,hea⟩ | ⟨hlt,hb,hk,hX⟩ | ⟨hlt,hb,hk,ts',hts,hX⟩
  ·subst he
   rw[List.drop_length]
   have hTo:T=out:=by rw[HO.out,hts,List.append_nil]
   clear hts
   go_wp2_with fail
   go_ret2
   exact⟨hbr,.inl ⟨hb,_,rfl,by rw[hTo];exact hown⟩⟩
  ·have HF:=Lib.hid (OJ wr A m (hL.below hbr) (l.drop i) (by rw[List.length_drop];omega) (by rw[List.length_drop];omega))
   have hemp:(l.drop i).isEmpty=false:=by
    cases h:l.drop i with
    | nil=>have:=congrArg List.length h;rw[List.length_drop]at this;simp at this;omega
    | cons x t=>rfl
   unfold X0 at HF
   rw[hb]at HF
   obtain⟨c,rfl⟩:∃ c,b=c+1:=⟨b-1,by omega⟩
   rw[show FV A (c+1)=errV A c from rfl]at HF
   have hne:=NG A c
   subst hea
   generalize lfirst (l.drop ea)=F at *
   obtain⟨t,s,b'⟩:=F
   simp only at HF
   clear hts hb hb0 HX HO
   generalize hD:l.drop ea=D at *
   clear hD
   unfold Q0P BT at HF
   go_wp2_with fail
   refine HF.out.mono ?_
   rintro e w1 ⟨rfl,hb1⟩
   have hB1:=hbr.trans (hb1.mono hsz)
   have hz1:=hB1.size
   go_wp2_with fail
   go_ret2
   exact⟨(hB1.alloc hz1 _).alloc (by simp;omega) _,.inr ⟨by omega,w1.heap.size+1,rfl,by omega,Blk.new2 w1 _ _ _⟩⟩
  ·have hO:=HO
   have hDl:(l.drop i).length=l.length-i:=List.length_drop
   have hs:=CZ (l:=l.drop i) (by omega) hb
   have HF:=Lib.hid (OJ wr A m (hL.below hbr) (l.drop i) (by omega) (by omega))
   have hemp:(l.drop i).isEmpty=false:=by
    cases h:l.drop i with
    | nil=>rw[h]at hDl;simp at hDl;omega
    | cons x t=>rfl
   unfold X0 at HF
   rw[hb,show FV A 0=Value.nilIface from rfl]at HF
   have hs0:=hs.1
   have hs1:=hs.2.1
   have hup:=NP (l.drop i) (lfirst (l.drop i)).2.1 hs1
   have hfr:=IT (l.drop i) (lfirst (l.drop i)).2.1 hs1
   rw[List.drop_drop]at hfr
   have hpl:=SJ l i
   have HP:=Lib.hid (fun(u:World)=>by
    have h:=SI u (BW l i) ((l.drop i).take (lfirst (l.drop i)).2.1) (by rw[List.length_take];omega) (by omega) (by omega)
    rw[<- MX]at h
    exact h)
   have HX':=Lib.hid hX
   generalize lfirst (l.drop i)=F at *
   obtain⟨⟨tk,tt,tn⟩,s,b'⟩:=F
   simp only at HF hk HX' hup hfr HP hs0 hs1 hO
   clear hs hb hX HX HO hpl
   generalize hD:l.drop i=D at *
   clear hD
   unfold Q0P BT at HF
   have hkz:((tk:Nat):Int)=0:=by omega
   clear hk
   go_wp2_with fail
   refine HF.out.mono ?_
   rintro e w1 ⟨rfl,hb1⟩
   have hown1:=SV hown hb1
   have hB1:=hbr.trans (hb1.mono hsz)
   have hz1:=hB1.size
   go_wp2_with fail
   refine(HP.out _).mono ?_
   rintro e w2 ⟨rfl,rfl⟩
   go_wp2_with fail
   go_roundg (gk-s)
   case measure=>omega
   case rel=>exact⟨i+s,out,ts,by omega,by omega,rfl,rfl,rfl,hO,HX',World.ownsRow.alloc hown1 _,hB1.alloc hz1 _⟩
  ·have hO:=Lib.hid (show T=(out++[((lfirst (l.drop i)).1,i)])++ts' by rw[HO.out,hts];simp)
   have hDl:(l.drop i).length=l.length-i:=List.length_drop
   have hs:=CZ (l:=l.drop i) (by omega) hb
   have HF:=Lib.hid (OJ wr A m (hL.below hbr) (l.drop i) (by omega) (by omega))
   have hemp:(l.drop i).isEmpty=false:=by
    cases h:l.drop i with
    | nil=>rw[h]at hDl;simp at hDl;omega
    | cons x t=>rfl
   unfold X0 at HF
   rw[hb,show FV A 0=Value.nilIface from rfl]at HF
   have hs0:=hs.1
   have hs1:=hs.2.1
   have hup:=NP (l.drop i) (lfirst (l.drop i)).2.1 hs1
   have hfr:=IT (l.drop i) (lfirst (l.drop i)).2.1 hs1
   rw[List.drop_drop]at hfr
   have hpl:=SJ l i
   have HP:=Lib.hid (fun(u:World)=>by
    have h:=SI u (BW l i) ((l.drop i).take (lfirst (l.drop i)).2.1) (by rw[List.length_take];omega) (by omega) (by omega)
    rw[<- MX]at h
    exact h)
   have HX':=Lib.hid hX
   generalize lfirst (l.drop i)=F at *
   obtain⟨⟨tk,tt,tn⟩,s,b'⟩:=F
   simp only at HF hk HX' hup hfr HP hs0 hs1 hO
   clear hs hb hX HX HO hpl hts
   generalize hD:l.drop i=D at *
   clear hD
   unfold Q0P BT at HF
   have hkz:¬ ((tk:Nat):Int)=0:=by omega
   clear hk
   go_wp2_with fail
   refine HF.out.mono ?_
   rintro e w1 ⟨rfl,hb1⟩
   have hown1:=SV hown hb1
   have hB1:=hbr.trans (hb1.mono hsz)
   have hz1:=hB1.size
   go_wp2_with (at_builtin;go_must (refine wpList_append_own_at _ rfl (.tmp 42) (.tmp 44) 84 rfl w.heap.size 128 i0 (.agg #[.int .i64 0,.string .empty,.int .i64 0,.int .i64 0,.int .i64 0]) 5 48 Tryz.underlying84 hi hz0 (by assumption) hz2 rfl (by decide) _ _ _ rfl ((World.ownsRow.alloc hown1 _).alloc _) ⟨w1.heap.size+1,0,none⟩ 1 1 (BT ⟨tk,tt,tn⟩ (BW l i).1 (BW l i).2) rfl rfl (Q4v _ _ (BT ⟨tk,tt,tn⟩ (BW l i).1 (BW l i).2) _ (by simp)) (Q5x _ _ _) (by rw[List.length_map];unfold maxLen;omega) (by rw[List.length_map];omega) (by simp;omega) ?_);intro v3 w3 hown3 hg3 hn3 ha3)
   have hb3:=((hB1.alloc hz1 _).alloc (by simp;omega) _).grown hg3 (by simp;omega) (fun g h=>(hown1.lt g h).1)
   have hown4:w3.ownsRow w.heap.size 128 5 v3 ((out++[((⟨tk,tt,tn⟩:Tok),i)]).map (FZ l)).length ((out++[((⟨tk,tt,tn⟩:Tok),i)]).map (FZ l)).flatten:=by
    rw[List.map_append,List.length_append,List.flatten_append,show(List.map (FZ l) [((⟨tk,tt,tn⟩:Tok),i)]).flatten=BT ⟨tk,tt,tn⟩ (BW l i).1 (BW l i).2 from by simp[FZ]]
    exact hown3
   clear hown3 hg3 hn3 ha3
   refine(HP.out _).mono ?_
   rintro e w2 ⟨rfl,rfl⟩
   go_wp2_with fail
   go_roundg (gk-s)
   case measure=>omega
   case rel=>exact⟨i+s,out++[((⟨tk,tt,tn⟩:Tok),i)],ts',by omega,by simp;omega,rfl,rfl,rfl,hO,HX',hown4,hb3⟩
set_option maxHeartbeats 1000000 in
theorem Q0R(w:World)(A:Nat->Addr)(m:Int)(hL:Lx w A m)(l:List UInt8)(hl:4000<l.length):
  Calls Tryz.prog 24 #[.string (str l)] w fun e w'=>Below w.heap.size w w' /\ ∃ g,e=.returned (.tuple #[.slice none 0 0,.iface tF (.pointer (some ⟨g,0,none⟩))])/\w.heap.size<=g/\Blk w' g 126 [.int .i64 0,.int .i64 0,errV A 2]:=by
 have hz:(str l).size=l.length:=BM l
 have hlen:(4000:Int)<(l.length:Int):=by omega
 have hlong:=hL.long
 go_enter Tryz.func24,Tryz.ntmps24
 go_wp2_with fail
 go_region
 all_goals
  go_wp2_with fail
  go_ret2
  exact⟨AV ((Below.refl _ _).alloc (Nat.le_refl _) _) 1,w.heap.size,rfl,Nat.le_refl _,(Blk.new w _ _).drew⟩
structure LxG (gls:List (Nat×List Value)) (A:Nat->Addr) (m:Int):Prop where
 range:(4,[errV A 0])∈gls
 long:(0,[errV A 2])∈gls
 form:(1,[errV A 8])∈gls
 max:(21,[.int .i64 m])∈gls
theorem LxG.lx{gls:List (Nat×List Value)}{A:Nat->Addr}{m:Int}(h:LxG gls A m){w:World}(hG:WX gls w):Lx w A m:=
 ⟨(hG _ _ h.range).2 0 _ rfl,(hG _ _ h.long).2 0 _ rfl,(hG _ _ h.form).2 0 _ rfl,(hG _ _ h.max).2 0 _ rfl⟩
abbrev Q6e(A:Nat->Addr)(li co b:Nat):Part:=.one (.ifc 124 (.ptr 126 [.cell (.int .i64 (li:Int)),.cell (.int .i64 (co:Int)),.cell (FV A b)]))
abbrev Q71:Part:=.one (.cell (.slice none 0 0))
theorem YS(s:List UInt8)(ts:List (Tok×Nat)):(CT s ts).flatMap tkD=(ts.map (FZ s)).flatten.map .cell:=by
 unfold CT
 induction ts with
 | nil=>rfl
 | cons x ts ih=>
  rw[List.map_cons,List.flatMap_cons,List.map_cons,List.flatten_cons,List.map_append,ih]
  rfl
theorem Q2z{w w':World}{D:Nat->Prop}{e:TypeId}{s:List UInt8}{ts:List (Tok×Nat)}{v:Value}(hb:Below w.heap.size w w')(h:w'.ownsRow w.heap.size e 5 v (ts.map (FZ s)).length (ts.map (FZ s)).flatten):Lies w' (Dr w D w') (.row 5 (CT s ts).length ((CT s ts).flatMap tkD)) v:=by
 have hf:Fits w' (fun _=>False) ((CT s ts).flatMap tkD) (ts.map (FZ s)).flatten:=by
  rw[YS]
  exact J9 _ _ _
 have hn:(ts.map (FZ s)).length=(CT s ts).length:=by simp[CT]
 rw[hn]at h
 have hg:Gr w' (fun _=>False) w.heap.size e 5 v (CT s ts).length ((CT s ts).flatMap tkD):=⟨_,h,hf⟩
 exact hg.lies (fun g h=>h.elim) fun g hg=>.inr (h.lt g hg)
theorem Q1P{w:World}{D:Nat->Prop}{v:Value}{vs:List Value}(h:PsFit w D [.one (.cell v)] vs):vs=[v]:=by
 cases vs with
 | nil=>exact h.elim
 | cons x vs=>
  obtain⟨h1,h2⟩:=h
  cases vs with
  | nil=>rw[Lies.cell_eq h1]
  | cons _ _=>exact h2.elim
def SpY(A:Nat->Addr)(s:List UInt8)(T:List (Tok×Nat))(b ea:Nat)(y:IV):Prop:=
 (b=0/\y=.tup [Q62 (CT s T),IS])\/(b≠0/\y=.tup [Q71,Q6e A (BW s ea).1 (BW s ea).2 b])
theorem Q5E{gls:List (Nat×List Value)}{A:Nat->Addr}{m:Int}(hg:LxG gls A m)(s:List UInt8)(hs:s.length<=4000)(T:List (Tok×Nat))(b ea:Nat)(hT:Lex s 0 T b ea):EFx Tryz.prog gls 24 [sP s] (SpY A s T b ea):=fun w D vs hD hG hp=>by
 rw[Q1P hp]
 refine(Q2G w A m (hg.lx hG) s hs T b ea hT).mono ?_
 rintro e w' ⟨hb,(⟨h0,v,rfl,hown⟩ | ⟨h0,g,rfl,hgs,hgb⟩)⟩
 ·exact⟨_,_,rfl,.inl ⟨h0,rfl⟩,hb,fun M V=>⟨[v,.nilIface],rfl,Q2z hb hown,.cell _,trivial⟩⟩
 ·exact⟨_,_,rfl,.inr ⟨h0,rfl⟩,hb,fun M V=>⟨[.slice none 0 0,.iface tF (.pointer (some ⟨g,0,none⟩))],rfl,.cell _,.ifc _ _ _ (.ptr _ _ _ _ (.inr ⟨hgs,hgb.lt⟩) hgb rfl fun j d x hd hx=>by
   match j,hd,hx with
   | 0,hd,hx=>cases hd;cases hx;exact .cell _
   | 1,hd,hx=>cases hd;cases hx;exact .cell _
   | 2,hd,hx=>cases hd;cases hx;exact .cell _),trivial⟩⟩
theorem Q5Q{gls:List (Nat×List Value)}{A:Nat->Addr}{m:Int}(hg:LxG gls A m)(s:List UInt8)(hs:4000<s.length):EF Tryz.prog gls 24 [sP s] (.tup [Q71,Q6e A 0 0 3]):=fun w D vs hD hG hp=>by
 rw[Q1P hp]
 refine(Q0R w A m (hg.lx hG) s hs).mono ?_
 rintro e w' ⟨hb,g,rfl,hgs,hgb⟩
 exact⟨_,_,rfl,rfl,hb,fun M V=>⟨[.slice none 0 0,.iface tF (.pointer (some ⟨g,0,none⟩))],rfl,.cell _,.ifc _ _ _ (.ptr _ _ _ _ (.inr ⟨hgs,hgb.lt⟩) hgb rfl fun j d x hd hx=>by
   match j,hd,hx with
   | 0,hd,hx=>cases hd;cases hx;exact .cell _
   | 1,hd,hx=>cases hd;cases hx;exact .cell _
   | 2,hd,hx=>cases hd;cases hx;exact .cell _),trivial⟩⟩
def E89{α:Type}(r:AZ α):Prop:=∀ e,r=.error e->e.2=8\/e.2=9
theorem CE{α:Type}(x:α):E89 (.ok x:AZ α):=fun e h=>by cases h
theorem BH{α:Type}(p:Nat):E89 (D1 p:AZ α):=fun e h=>by
 unfold D1 at h
 injection h with h
 subst h
 exact .inr rfl
theorem AX{α β:Type}{r:AZ α}{e:Nat×Nat}(hr:E89 r)(h:r=.error e):E89 (.error e:AZ β):=fun e' h'=>by
 injection h' with h'
 subst h'
 exact hr _ h
theorem CO(l:List Tk)(k:Nat)(t:List UInt8)(p:Nat):E89 (BK l k t p):=by
 unfold BK
 repeat' split
 all_goals first
  | exact CE _
  | exact BH _
theorem EB(l:List Tk)(p:Nat):E89 (DF l p):=by
 unfold DF
 repeat' split
 all_goals first
  | exact CE _
  | exact BH _
theorem GW(l:List Tk)(p:Nat):E89 (D9 l p):=by
 unfold D9
 repeat' split
 all_goals first
  | exact CE _
  | exact BH _
theorem W8(l:List Tk)(p:Nat):E89 (I1 l p):=by
 unfold I1
 repeat' split
 all_goals first
  | exact CE _
  | exact BH _
theorem Q8(l:List Tk):∀ (n:Nat) (s:List UInt8) (p:Nat),E89 (E3 l n s p)
 | 0,s,p=>by
  rw[E3]
  exact BH _
 | n+1,s,p=>by
  rw[E3]
  repeat' split
  all_goals first
   | exact CE _
   | exact BH _
   | exact EB l _
   | exact AX (EB l _) (by assumption)
   | exact Q8 l n _ _
   | exact AX (Q8 l n _ _) (by assumption)
theorem J7(l:List Tk)(b:Bool)(p:Nat):E89 (CX l b p):=by
 unfold CX
 repeat' split
 all_goals first
  | exact CE _
  | exact BH _
  | exact Q8 l _ _ _
  | exact AX (Q8 l _ _ _) (by assumption)
theorem VH(l:List Tk)(f:Fld)(p:Nat):E89 (CW l f p):=by
 unfold CW
 repeat' split
 all_goals first
  | exact CE _
  | exact BH _
  | exact CO l _ _ _
  | exact AX (CO l _ _ _) (by assumption)
  | exact EB l _
  | exact AX (EB l _) (by assumption)
theorem QC(l:List Tk):∀ (n:Nat) (f:Fld) (p:Nat),E89 (KL l n f p)
 | 0,f,p=>by
  rw[KL]
  exact BH _
 | n+1,f,p=>by
  rw[KL]
  repeat' split
  all_goals first
   | exact CE _
   | exact BH _
   | exact VH l _ _
   | exact AX (VH l _ _) (by assumption)
   | exact CO l _ _ _
   | exact AX (CO l _ _ _) (by assumption)
   | exact QC l n _ _
   | exact AX (QC l n _ _) (by assumption)
theorem R7(l:List Tk)(f:Fld)(p:Nat):E89 (E0 l f p):=by
 unfold E0
 repeat' split
 all_goals first
  | exact CE _
  | exact BH _
  | exact QC l _ _ _
  | exact AX (QC l _ _ _) (by assumption)
  | exact CO l _ _ _
  | exact AX (CO l _ _ _) (by assumption)
theorem PZ(l:List Tk)(f:Fld)(p:Nat):E89 (H6 l f p):=by
 unfold H6
 repeat' split
 all_goals first
  | exact CE _
  | exact BH _
  | exact EB l _
  | exact AX (EB l _) (by assumption)
  | exact CO l _ _ _
  | exact AX (CO l _ _ _) (by assumption)
  | exact GW l _
  | exact AX (GW l _) (by assumption)
  | exact R7 l _ _
  | exact AX (R7 l _ _) (by assumption)
theorem K2(l:List Tk)(p:Nat)(a b:Int):E89 (FN l p a b):=by
 unfold FN
 repeat' split
 all_goals first
  | exact CE _
  | exact BH _
  | exact J7 l _ _
  | exact AX (J7 l _ _) (by assumption)
  | exact PZ l _ _
  | exact AX (PZ l _ _) (by assumption)
theorem Q2W(l:List Tk)(p:Nat):E89 (DS l p):=by
 unfold DS
 repeat' split
 all_goals first
  | exact CE _
  | exact BH _
  | exact CO l _ _ _
  | exact AX (CO l _ _ _) (by assumption)
  | exact EB l _
  | exact AX (EB l _) (by assumption)
  | exact J7 l _ _
  | exact AX (J7 l _ _) (by assumption)
  | exact PZ l _ _
  | exact AX (PZ l _ _) (by assumption)
theorem Q7(l:List Tk)(p:Nat):E89 (KM l p):=by
 unfold KM
 repeat' split
 all_goals first
  | exact CE _
  | exact BH _
  | exact EB l _
  | exact AX (EB l _) (by assumption)
  | exact CO l _ _ _
  | exact AX (CO l _ _ _) (by assumption)
theorem XH(l:List Tk)(p:Nat):E89 (EA l p):=by
 unfold EA
 repeat' split
 all_goals first
  | exact CE _
  | exact BH _
  | exact EB l _
  | exact AX (EB l _) (by assumption)
  | exact CO l _ _ _
  | exact AX (CO l _ _ _) (by assumption)
  | exact GW l _
  | exact AX (GW l _) (by assumption)
theorem Q0(l:List Tk):∀ (n:Nat) (vs:List Val) (p:Nat),E89 (HH l n vs p)
 | 0,vs,p=>by
  rw[HH]
  exact BH _
 | n+1,vs,p=>by
  rw[HH]
  repeat' split
  all_goals first
   | exact CE _
   | exact BH _
   | exact XH l _
   | exact AX (XH l _) (by assumption)
   | exact Q0 l n _ _
   | exact AX (Q0 l n _ _) (by assumption)
theorem Q1p(l:List Tk)(p:Nat):E89 (FK l p):=by
 unfold FK
 repeat' split
 all_goals first
  | exact CE _
  | exact BH _
  | exact Q7 l _
  | exact AX (Q7 l _) (by assumption)
  | exact Q0 l _ _ _
  | exact AX (Q0 l _ _ _) (by assumption)
theorem Q6(l:List Tk)(w:Int):∀ (n:Nat) (vs:List Fld) (p:Nat),E89 (GL l w n vs p)
 | 0,vs,p=>by
  rw[GL]
  exact BH _
 | n+1,vs,p=>by
  rw[GL]
  repeat' split
  all_goals first
   | exact CE _
   | exact BH _
   | exact K2 l _ _ _
   | exact AX (K2 l _ _ _) (by assumption)
   | exact Q6 l w n _ _
   | exact AX (Q6 l w n _ _) (by assumption)
theorem Q4q(l:List Tk)(p:Nat)(w:Int):E89 (G1 l p w):=by
 unfold G1
 repeat' split
 all_goals first
  | exact CE _
  | exact BH _
  | exact Q7 l _
  | exact AX (Q7 l _) (by assumption)
  | exact Q6 l _ _ _ _
  | exact AX (Q6 l _ _ _ _) (by assumption)
theorem ZV(l:List Tk)(p:Nat):E89 (H7 l p):=by
 unfold H7
 repeat' split
 all_goals first
  | exact CE _
  | exact BH _
  | exact GW l _
  | exact AX (GW l _) (by assumption)
theorem LA(l:List Tk):∀ (n:Nat) (s:List (Int×Int)) (p:Nat),E89 (F0 l n s p)
 | 0,s,p=>by
  rw[F0]
  exact BH _
 | n+1,s,p=>by
  rw[F0]
  repeat' split
  all_goals first
   | exact CE _
   | exact BH _
   | exact ZV l _
   | exact AX (ZV l _) (by assumption)
   | exact CO l _ _ _
   | exact AX (CO l _ _ _) (by assumption)
   | exact LA l n _ _
   | exact AX (LA l n _ _) (by assumption)
theorem NA(l:List Tk):∀ (n:Nat) (s:List (List UInt8)) (p:Nat),E89 (GJ l n s p)
 | 0,s,p=>by
  rw[GJ]
  exact BH _
 | n+1,s,p=>by
  rw[GJ]
  repeat' split
  all_goals first
   | exact CE _
   | exact BH _
   | exact W8 l _
   | exact AX (W8 l _) (by assumption)
   | exact CO l _ _ _
   | exact AX (CO l _ _ _) (by assumption)
   | exact NA l n _ _
   | exact AX (NA l n _ _) (by assumption)
theorem XL(l:List Tk)(p:Nat):E89 (DJ l p):=by
 unfold DJ
 repeat' split
 all_goals first
  | exact CE _
  | exact BH _
  | exact NA l _ _ _
  | exact AX (NA l _ _ _) (by assumption)
  | exact LA l _ _ _
  | exact AX (LA l _ _ _) (by assumption)
theorem Q6j(l:List Tk)(sub:Nat->AZ (Msg×Nat))(hs:∀ p,E89 (sub p))(m:Msg)(p:Nat):E89 (CN l sub m p):=by
 unfold CN
 dsimp only
 split
 ·split
  ·exact AX (hs _) (by assumption)
  ·exact CE _
 split
 ·split
  ·exact AX (Q1p l _) (by assumption)
  ·exact CE _
 split
 ·split
  ·exact AX (Q4q l _ _) (by assumption)
  ·exact CE _
 split
 ·split
  ·exact AX (XL l _) (by assumption)
  ·exact CE _
 split
 ·rename_i h
  refine AX ?_ h
  split
  ·exact K2 l _ _ _
  split
  ·exact K2 l _ _ _
  split
  ·exact Q2W l _
  ·exact K2 l _ _ _
 ·exact CE _
theorem Q1D(l:List Tk)(sub:Nat->AZ (Msg×Nat))(hs:∀ p,E89 (sub p)):∀ (n:Nat) (m:Msg) (p:Nat),E89 (ET l sub n m p)
 | 0,m,p=>by
  rw[ET]
  exact BH _
 | n+1,m,p=>by
  rw[ET]
  split
  ·exact CE _
  split
  ·exact AX (Q6j l sub hs _ _) (by assumption)
  ·exact Q1D l sub hs n _ _
theorem ST(l:List Tk):∀ (d p:Nat),E89 (BE l d p)
 | 0,p=>by
  rw[BE]
  split
  ·exact AX (EB l _) (by assumption)
  ·intro e h
   injection h with h
   subst h
   exact .inl rfl
 | d+1,p=>by
  rw[BE]
  split
  ·exact AX (EB l _) (by assumption)
  split
  ·exact AX (CO l _ _ _) (by assumption)
  ·exact Q1D l _ (ST l d) _ _ _
theorem Y5(l:List Tk):∀ (n:Nat) (f:Fil) (p:Nat),E89 (DW l n f p)
 | 0,f,p=>by
  rw[DW]
  exact BH _
 | n+1,f,p=>by
  rw[DW]
  repeat' split
  all_goals first
   | exact CE _
   | exact BH _
   | exact Y5 l n _ _
   | exact AX (ST l _ _) (by assumption)
   | exact AX (Q1p l _) (by assumption)
theorem Q0C(l:List Tk)(p:Nat):E89 (DI l p):=by
 unfold DI
 repeat' split
 all_goals first
  | exact CE _
  | exact AX (CO l _ _ _) (by assumption)
  | exact AX (J7 l _ _) (by assumption)
theorem Q5O(l:List Tk):E89 (FT l):=by
 unfold FT
 repeat' split
 all_goals first
  | exact CE _
  | exact BH _
  | exact Y5 l _ _ _
  | exact AX (CO l _ _ _) (by assumption)
  | exact AX (W8 l _) (by assumption)
  | exact AX (Q0C l _) (by assumption)
end Go.Proofs.YtgcphgdkddihcaaGreatDoor
