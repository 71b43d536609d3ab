/- Part 1. Conditions: as each theorem says. -/
import Derived.WalkKit
import Derived.Lib.Hide
import Derived.Laws.CopyOwn
import Derived.Laws.AppendOwnNone
import Derived.Deep.Draws
import Derived.Deep.AppendLies
import Derived.Deep.OwnRows
import Derived.Maps.AppendAt
import Derived.RegionTactic
import Derived.OwnWalk
import Derived.Test.YtgcphgdkddihcaaGreatDoorProg
import Derived.LaidEql
import Derived.LaidEqlPtr
import Derived.Stop.Asserts
import Derived.RowKitTokens
import Derived.Stop.LaidErr
import Derived.WideLaws
import Derived.ProofKit
import Derived.LaidMore
import Derived.LaidLaws
import Derived.MakeChecks
import Derived.Lib.IndexMore
import Derived.Lib.IndexLaws
import Derived.Laws.BytesArg
import Derived.WalkSpells
import Derived.WalkLawsBesides
import Derived.Laws.Strings3
import Derived.Deep.LoopGhost
import Derived.Shelf.Small.Utf8
import Derived.Shelf.Small.Bits
import Derived.Shelf.Small.Strs
import Derived.Shelf.Strconv.Itoa0
import Derived.Shelf.LaysM
import Derived.Shelf.Strconv.Clone
import Derived.Shelf.Strings.Search1
import Derived.Shelf.Strings.Search2
import Derived.Shelf.Strings.Search3
import Derived.Shelf.Strings.Shaped
import Derived.Shelf.Strings.Prefix
import Derived.Shelf.Strings.Runes
import Derived.Shelf.Strings.IndexAny
import Derived.Shelf.Strings.AsciiSet
import Derived.Shelf.Strings.IndexAnyAll
import Derived.Shelf.Abstract
import Derived.Lib.IndexBytes
import Derived.Deep.QuietTactic
import Derived.BigQuiet
import Derived.Laws.Rows
import Derived.Defers
import Derived.Recover
import Derived.Laws.Pointers
import Derived.Deep.RegionHeld3
import Derived.Test.YtgcphgdkddihcaaGreatDoorRows
import Derived.LaidHandle
import Derived.HandedShaped
set_option maxRecDepth 100000
namespace Go.Proofs.YtgcphgdkddihcaaGreatDoor
open Go.RowKit
section
def bv(b:UInt8):Value:=.int .u8 (b.toNat:Int)
def Blk(w:World)(g:Nat)(t:TypeId)(cs:List Value):Prop:=w.heap[g]?=some (.cells cs.toArray t (0,0))
section
variable{w w':World}{g:Nat}{t:TypeId}{cs:List Value}
theorem Blk.lt(h:Blk w g t cs):g<w.heap.size:=by
 rcases Nat.lt_or_ge g w.heap.size with hlt | hge
 ·exact hlt
 ·unfold Blk at h;rw[Array.getElem?_eq_none hge]at h;cases h
theorem Blk.cell(h:Blk w g t cs)(i:Nat):w.cell? ⟨g,i,none⟩=cs[i]?:=by
 rw[cell_of_row w g i cs.toArray t (0,0) h];simp
theorem Blk.frozen(h:Blk w g t cs)(i:Nat):w.frozen? ⟨g,i,none⟩=false:=by
 unfold Blk at h
 simp[World.frozen?,h]
theorem Blk.new(w:World)(t:TypeId)(cs:List Value):Blk (w.alloc (.cells cs.toArray t)) w.heap.size t cs:=heap_alloc_new w _
theorem Blk.drew(h:Blk w g t cs):Blk w.drew g t cs:=h
theorem Blk.drewN(h:Blk w g t cs)(n:Nat):Blk (w.drewN n) g t cs:=h
theorem Blk.alloc(h:Blk w g t cs)(o:Obj):Blk (w.alloc o) g t cs:=(Below.heap_alloc w o g h.lt).trans h
theorem Blk.set_(h:Blk w g t cs)(i:Nat)(u:Value):Blk (w.setCell ⟨g,i,none⟩ u) g t (cs.set i u):=by
 unfold Blk at h ⊢
 simp[World.setCell,Array.getElem?_modify,h]
theorem Blk.far(h:Blk w g t cs){p:Addr}(hp:g≠p.block)(u:Value):Blk (w.setCell p u) g t cs:=(Below.heap_setCell w p u g hp).trans h
theorem Blk.below{B:Nat}(h:Blk w g t cs)(hb:Below B w w')(hg:g<B):Blk w' g t cs:=(hb.block g hg).trans h
theorem Blk.kept(h:Blk w g t cs)(hb:Below w.heap.size w w'):Blk w' g t cs:=h.below hb h.lt
theorem Blk.grown{row:Option Nat}(h:Blk w g t cs)(hb:w.grownBy w' row)(hg:some g≠row):Blk w' g t cs:=(hb.block g h.lt hg).trans h
theorem Blk.same{cs':List Value}(h:Blk w g t cs)(h':Blk w g t cs'):cs=cs':=by
 unfold Blk at h h'
 rw[h]at h'
 injection h' with h'
 injection h' with h1 _
 simpa using h1
end
theorem AV{B:Nat}{a w:World}(h:Below B a w)(n:Nat):Below B a (w.drewN n):=⟨h.os,h.tape,h.output,h.size,h.block⟩
def Sl(w:World)(B:Nat)(p:Option Addr)(l:List UInt8):Prop:=
 0<l.length -> ∃ b o,p=some ⟨b,o,none⟩/\b<B /\ ∀ (i:Nat) (x:UInt8),l[i]?=some x->w.cell? ⟨b,o+i,none⟩=some (bv x)
section
variable{w w':World}{B B':Nat}{p:Option Addr}{l:List UInt8}
theorem Sl.nil(w:World)(B:Nat)(p:Option Addr):Sl w B p []:=fun h=>absurd h (Nat.lt_irrefl 0)
theorem Sl.more(h:Sl w B p l)(hB:B<=B'):Sl w B' p l:=fun hl=>by
 obtain⟨b,o,e,hb,hc⟩:=h hl
 exact⟨b,o,e,by omega,hc⟩
theorem Sl.below(h:Sl w B p l)(hb:Below B w w'):Sl w' B p l:=fun hl=>by
 obtain⟨b,o,e,hlt,hc⟩:=h hl
 exact⟨b,o,e,hlt,fun i x hx=>(hb.cell (p:=⟨b,o+i,none⟩) hlt).trans (hc i x hx)⟩
theorem Sl.src(h:Sl w B p l)(hl:0<l.length):∃ ad,p=some ad /\ ∀ j v,(l.map bv)[j]?=some v->w.cell? (ad.add j)=some v:=by
 obtain⟨b,o,rfl,_,hc⟩:=h hl
 refine⟨_,rfl,fun j v hv=>?_⟩
 rw[List.getElem?_map]at hv
 obtain⟨x,hx,rfl⟩:=Option.map_eq_some_iff.1 hv
 have e:(⟨b,o,none⟩:Addr).add j=⟨b,o+j,none⟩:=by unfold Addr.add;split<;>simp_all
 rw[e];exact hc j x hx
end
section
variable{P:Program}(w:World)
theorem NI(base:Nat)(t ty e:TypeId)(i:TypeInfo)(size:Nat)(ht:P.underlying t=some (.slice e))(hi:P.info? e=some i)
  (v:Value) (n:Nat) (xs:List Value) (hown:w.ownsRow base e size v n xs) (c:Nat):(Builtin.append_ #[t,t] ty #[v,.slice none 0 c]).run P w=.ok v w:=by
 rcases hown.2 with⟨rfl,rfl⟩ | ⟨g,cap,cur,rfl,_,_,hnc,_⟩
 ·simp[Builtin.append_,run_underlying ht,sizeOf,typeInfo,hi,Builtin.lenOf,Builtin.firstCells]
 ·simp[Builtin.append_,run_underlying ht,sizeOf,typeInfo,hi,Builtin.lenOf,Builtin.firstCells,hnc,storeCells]
end
section
variable{w:World}{base:Nat}{e:TypeId}{v:Value}{n:Nat}{xs:List Value}
theorem Q6a(h:w.ownsRow base e 1 v n xs)(hn:0<n):
  ∃ g cap rest,v=.slice (some ⟨g,0,none⟩) n cap/\base<=g/\Blk w g e (xs++rest)/\n<=cap/\cap<=maxLen/\n+rest.length=cap:=by
 obtain⟨h1,h2⟩:=h
 rcases h2 with⟨_,h0⟩ | ⟨g,cap,cur,hv,hg,hh,hnc,hcm,hcs,ht⟩
 ·omega
 ·simp only[Nat.mul_one]at ht h1 hcs
  refine⟨g,cap,cur.toList.drop n,hv,hg,?_,hnc,hcm,by simp;omega⟩
  unfold Blk
  rw[<- ht,List.take_append_drop]
  exact hh
end
end
section
open Go.RowKit Go.Extern.Stop Go.Stop Go.Extern
abbrev tE:TypeId:=375
end
section
open Go.RowKit Go.ChangeShapes
def errGs:List Nat:=[4,5,0,6,7,8,9,10,1,11,2,12,13,14,15,16,17,18,19]
abbrev errV(A:Nat->Addr)(i:Nat):Value:=.iface tE (.pointer (some (A i)))
structure Errs (w:World) (A:Nat->Addr):Prop where
 holds:∀ i g,errGs[i]?=some g->w.cell? ⟨g,0,none⟩=some (errV A i)
 blocks:∀ i,i<19 -> ∃ c t,w.heap[(A i).block]?=some (.cells c t (0,0))
 apart:∀ i j,i<19->j<19->i≠j->A i≠A j
theorem Errs.lt{w:World}{A:Nat->Addr}(h:Errs w A){i g:Nat}(hi:errGs[i]?=some g):g<w.heap.size:=World.block_lt_of_cell? w ⟨g,0,none⟩ (h.holds i g hi)
theorem Errs.below{w w':World}{A:Nat->Addr}(h:Errs w A)(hb:Below w.heap.size w w'):Errs w' A:=
 ⟨fun i g hg=>(hb.cell (p:=⟨g,0,none⟩) (h.lt hg)).trans (h.holds i g hg),fun i hi=>by
  obtain⟨c,t,hc⟩:=h.blocks i hi
  exact⟨c,t,(hb.block _ (Array.getElem?_eq_some_iff.1 hc).1).trans hc⟩,h.apart⟩
theorem Errs.only{w w':World}{A:Nat->Addr}{r B:Nat}(h:Errs w A)(hb:w.grownBy w' (some r))(hr:B<=r)(hB:∀ (i g:Nat),errGs[i]?=some g->g<B)(hA:∀ i,i<19->(A i).block<B):Errs w' A:=
 ⟨fun i g hg=>(World.cell?_of_block (hb.block g (h.lt hg) (by have:=hB i g hg;simp;omega))).trans (h.holds i g hg),fun i hi=>by
  obtain⟨c,t,hc⟩:=h.blocks i hi
  exact⟨c,t,(hb.block _ (Array.getElem?_eq_some_iff.1 hc).1 (by have:=hA i hi;simp;omega)).trans hc⟩,h.apart⟩
end
section
open Go.RowKit Go.ChangeShapes
structure Ent where
 n:String
 g:Nat
 text:List UInt8
def Ent.laid(e:Ent):String×DataW Unit:=(e.n,.iface "*errors.errorString" (.ptr (.agg [.lit (.string e.text)])))
def ents:List Ent:=[
 ⟨"redline/api.ErrRange",4,[97,32,110,117,109,98,101,114,32,105,115,32,111,117,116,32,111,102,32,105,116,115,32,114,97,110,103,101]⟩,
 ⟨"redline/api.ErrShort",5,[115,111,109,101,116,104,105,110,103,32,105,115,32,109,105,115,115,105,110,103,32,97,116,32,116,104,101,32,101,110,100]⟩,
 ⟨"redline/api.ErrLong",0,[116,104,101,114,101,32,105,115,32,109,111,114,101,32,116,104,97,110,32,109,97,121,32,98,101]⟩,
 ⟨"redline/api.ErrVarint",6,[105,116,32,105,115,32,110,111,32,118,97,114,105,110,116]⟩,
 ⟨"redline/api.ErrTag",7,[105,116,32,105,115,32,110,111,32,116,97,103]⟩,
 ⟨"redline/api.ErrGroup",8,[116,104,101,114,101,32,97,114,101,32,110,111,32,103,114,111,117,112,115]⟩,
 ⟨"redline/api.ErrRune",9,[105,116,32,105,115,32,110,111,32,85,84,70,45,56]⟩,
 ⟨"redline/api.ErrDepth",10,[105,116,32,103,111,101,115,32,116,111,111,32,100,101,101,112]⟩,
 ⟨"redline/api.ErrForm",1,[105,116,32,105,115,32,110,111,116,32,111,102,32,105,116,115,32,102,111,114,109]⟩,
 ⟨"redline/api.ErrName",11,[116,104,101,114,101,32,105,115,32,110,111,32,115,117,99,104,32,110,97,109,101]⟩,
 ⟨"redline/api.ErrDup",2,[105,116,32,105,115,32,116,104,101,114,101,32,97,108,114,101,97,100,121]⟩,
 ⟨"redline/api.ErrKind",12,[105,116,32,105,115,32,111,102,32,97,110,111,116,104,101,114,32,107,105,110,100]⟩,
 ⟨"redline/api.ErrClash",13,[105,116,32,105,115,32,110,111,116,32,119,104,97,116,32,105,116,32,119,97,115]⟩,
 ⟨"redline/api.ErrNone",14,[116,104,101,114,101,32,105,115,32,110,111,110,101]⟩,
 ⟨"redline/api.ErrFull",15,[116,104,101,114,101,32,105,115,32,110,111,32,109,111,114,101,32,114,111,111,109]⟩,
 ⟨"redline/api.ErrState",16,[105,116,32,99,97,110,32,110,111,116,32,98,101,32,100,111,110,101,32,105,110,32,116,104,105,115,32,115,116,97,116,101]⟩,
 ⟨"redline/api.ErrPower",17,[116,104,101,32,112,111,119,101,114,32,105,115,32,103,111,110,101]⟩,
 ⟨"redline/api.ErrSum",18,[116,104,101,32,115,117,109,32,105,115,32,110,111,116,32,114,105,103,104,116]⟩,
 ⟨"redline/api.ErrConflict",19,[98,111,116,104,32,115,105,100,101,115,32,99,104,97,110,103,101,100,32,105,116]⟩]
def Q7W(W:World)(e:Ent)(a:Addr):Prop:=
 W.cell? ⟨e.g,0,none⟩=some (.iface tE (.pointer (some a)))/\(∃ s:ByteArray,W.cell? a=some (.string s)/\s.data.toList=e.text) /\ ∃ c t,W.heap[a.block]?=some (.cells c t (0,0))
theorem Q7y : "*" ++ "errors.errorString" = "*errors.errorString" := by decide
theorem Q8b(u:TypeId)(h:Tryz.prog.typeName? 3 u=some "*errors.errorString"):u=tE:=
 typeName_ptr_named (nm := "errors.errorString") (by rw[Q7y];kernel_rfl) (by kernel_rfl) (by decide) u (by rw[Q7y];exact h)
theorem Q5X:Tryz.prog.cellsOf 393=1:=by kernel_rfl
theorem Q4A:Tryz.prog.cellsOf 9=1:=by kernel_rfl
theorem Q23{W:World}{e:Ent}{r:List (String×DataW Unit)}(h:laidMet Tryz.prog (e.laid::r) W)(hg:Tryz.prog.globalNamed e.n=some e.g)(ht:(Tryz.prog.globals[e.g]?).map (·.type)=some 28):∃ a,Q7W W e a:=by
 obtain⟨ps,⟨g,t,⟨cl⟩,f,p,q,hg1,ht1,hv,hd,_,he⟩,_,hrows⟩:=h
 cases Option.some.inj (hg.symm.trans hg1)
 cases Option.some.inj (ht.symm.trans ht1)
 have hok:∀ u v,cl=[.iface u v]->Value.okWide Tryz.prog W .any 0 u v:=fun u v hc=>by
  subst hc
  exact(hrows e.g 0 (by rw[he];simp[MemPlace.row])).2 u v (by simpa using World.var?_cell hg1 hv 0)
 obtain⟨a,s,rfl,hca,hs,_,rfl⟩:=errorString_of_trod Tryz.underlying28 Q8b Tryz.underlying375 Tryz.underlying393 rfl rfl Tryz.underlying9 Q5X Q4A hd hok
 exact⟨a,by simpa using World.var?_cell hg1 hv 0,⟨s,hca,hs⟩,(hrows a.block a.off (by rw[he];simp[MemPlace.row])).1⟩
theorem Q6G{W:World}:∀ (es:List Ent),(∀ e∈es,Tryz.prog.globalNamed e.n=some e.g/\(Tryz.prog.globals[e.g]?).map (·.type)=some 28)->laidMet Tryz.prog (es.map Ent.laid) W ->
  ∃ A:Nat->Addr,∀ (i:Nat) e,es[i]?=some e->Q7W W e (A i)
 | [],_,_=>⟨fun _=>⟨0,0,none⟩,fun i e h=>by simp at h⟩
 | e::es,hes,h=>by
  obtain⟨a,ha⟩:=Q23 (r:=es.map Ent.laid) h (hes e List.mem_cons_self).1 (hes e List.mem_cons_self).2
  obtain⟨A,hA⟩:=Q6G es (fun x hx=>hes x (List.mem_cons_of_mem _ hx)) h.tail
  refine⟨fun i=>match i with | 0=>a | i+1=>A i,fun i x hx=>?_⟩
  match i,hx with
  | 0,hx=>simp at hx;subst hx;exact ha
  | i+1,hx=>exact hA i x (by simpa using hx)
theorem Q5r:∀ e∈ents,Tryz.prog.globalNamed e.n=some e.g/\(Tryz.prog.globals[e.g]?).map (·.type)=some 28:=by
 have h:(ents.all fun e=>decide (Tryz.prog.globalNamed e.n=some e.g/\(Tryz.prog.globals[e.g]?).map (·.type)=some 28))=true:=by kernel_rfl
 exact fun e he=>of_decide_eq_true (List.all_eq_true.1 h e he)
end
def FV(A:Nat->Addr):Nat->Value
 | 0=>.nilIface
 | b+1=>errV A b
theorem NG(A:Nat->Addr)(b:Nat)(u:World):(binOp .neq 28 (errV A b) .nilIface).run Tryz.prog u=.ok (.bool true) u:=run_neq_held_nil (P:=Tryz.prog) u 28 tE (.pointer (some (A b))) (by kernel_rfl)
section
open Go Go.Lib
def FU(b:UInt8):Bool:=b==32||b==9||b==13||b==10
def lxLet(b:UInt8):Bool:=decide (97<=b.toNat/\b.toNat<=122)||decide (65<=b.toNat/\b.toNat<=90)||b==95
def lxFig(b:UInt8):Bool:=decide (48<=b.toNat/\b.toNat<=57)
def N7(b:UInt8):Bool:=lxLet b||lxFig b
def GQ(b:UInt8):Bool:=b==34||b==39
def signs:List UInt8:=[123,125,91,93,60,62,40,41,59,61,44,46,45]
def lxSign(b:UInt8):Bool:=signs.contains b
def D6(b:UInt8):Nat:=
 if 48<=b.toNat/\b.toNat<=57 then b.toNat-48 else if 97<=b.toNat/\b.toNat<=102 then b.toNat-97+10
 else if 65<=b.toNat/\b.toNat<=70 then b.toNat-65+10 else 16
def CL(p:UInt8->Bool):List UInt8->Nat
 | []=>0
 | b::l=>if p b then CL p l+1 else 0
theorem K9(p:UInt8->Bool):∀ l,CL p l<=l.length
 | []=>Nat.le_refl _
 | b::l=>by
  have:=K9 p l
  unfold CL
  split<;>simp<;>omega
theorem X9{p:UInt8->Bool}:∀ {l:List UInt8} {i:Nat},i<=l.length->(∀ j b,j<i->l[j]?=some b->p b=true)->(∀ b,l[i]?=some b->p b=false)->CL p l=i
 | [],i,hi,_,_=>by
  have:i=0:=by simpa using hi
  subst this;rfl
 | b::l,0,_,_,hs=>by
  have:=hs b (by simp)
  simp[CL,this]
 | b::l,i+1,hi,hj,hs=>by
  have h0:=hj 0 b (by omega) (by simp)
  have:=X9 (p:=p) (l:=l) (i:=i) (by simpa using hi) (fun j c h hc=>hj (j+1) c (by omega) (by simpa using hc)) (fun c hc=>hs c (by simpa using hc))
  simp[CL,h0,this]
theorem UI{p:UInt8->Bool}:∀ {l:List UInt8} {j:Nat} {b:UInt8},j<CL p l->l[j]?=some b->p b=true
 | [],j,b,h,_=>by simp[CL]at h
 | c::l,j,b,h,hb=>by
  unfold CL at h
  split at h
  ·rename_i hc
   cases j with
   | zero=>simp at hb;exact hb▸hc
   | succ j=>exact UI (l:=l) (j:=j) (by omega) (by simpa using hb)
  ·omega
theorem UO{p:UInt8->Bool}{b:UInt8}{l:List UInt8}(h:p b=true):CL p (b::l)=CL p l+1:=by simp[CL,h]
def FS(base:Nat)(ds:List UInt8):Nat:=ds.foldl (fun n b=>n*base+D6 b) 0
def lnb(base:Nat)(ds:List UInt8):Nat×Nat:=
 if ds=[]\/(ds.all fun b=>decide (D6 b<base))=false then(0,9)else if 2147483647<FS base ds then(0,1)else(FS base ds,0)
def M9(l:List UInt8):Nat×Nat:=
 if l.take 2=[48,120]\/l.take 2=[48,88]then lnb 16 (l.drop 2)else if l.head?=some 48 then lnb 8 l else lnb 10 l
def FC(k:Nat)(e l:List UInt8):Nat×Nat:=if index (l.drop k) e<0 then(0,9)else(k+(index (l.drop k) e).toNat+e.length,0)
def Q4g(b:UInt8):Bool:=b != 10
def lcut(l:List UInt8):Nat×Nat×Nat:=
 if FU (l.headD 0)then(0,CL FU l,0)
 else if l.take 2=[47,47]then(0,CL Q4g l,0)
 else if l.take 2=[47,42]then(0,FC 2 [42,47] l)
 else if lxLet (l.headD 0)then(1,CL N7 l,0)
 else if lxFig (l.headD 0)then(2,CL N7 l,0)
 else if GQ (l.headD 0)then(3,FC 1 [l.headD 0] l)
 else if lxSign (l.headD 0)then(4,1,0)
 else(0,0,9)
structure Tok where
 k:Nat
 t:List UInt8
 n:Nat
deriving DecidableEq
def DK(k:Nat)(p:List UInt8):Tok×Nat:=
 if k=0 then(⟨0,[],0⟩,0)
 else if k=1 then(if 40<p.length then(⟨0,[],0⟩,3)else(⟨1,p,0⟩,0))
 else if k=2 then(if(M9 p).2=0 then(⟨2,p,(M9 p).1⟩,0)else(⟨0,[],0⟩,(M9 p).2))
 else if k=3 then(if(92:UInt8)∈(p.drop 1).take (p.length-2)\/(10:UInt8)∈(p.drop 1).take (p.length-2)then(⟨0,[],0⟩,9)else(⟨3,(p.drop 1).take (p.length-2),0⟩,0))
 else(⟨k,p,0⟩,0)
def lfirst(l:List UInt8):Tok×Nat×Nat:=
 if(lcut l).2.2≠0 then(⟨0,[],0⟩,0,(lcut l).2.2)
 else if(DK (lcut l).1 (l.take (lcut l).2.1)).2≠0 then(⟨0,[],0⟩,0,(DK (lcut l).1 (l.take (lcut l).2.1)).2)
 else((DK (lcut l).1 (l.take (lcut l).2.1)).1,(lcut l).2.1,0)
theorem JR{k:Nat}{e l:List UInt8}(hk:k<=l.length)(h:(FC k e l).2=0):k+e.length<=(FC k e l).1/\(FC k e l).1<=l.length:=by
 unfold FC at h ⊢
 split
 ·rename_i h0;rw[if_pos h0]at h;cases h
 ·rename_i h0
  have:=index_room (l.drop k) e (by omega)
  rw[List.length_drop]at this
  simp only
  omega
theorem GH{p:UInt8->Bool}{l:List UInt8}(h0:0<l.length)(h:p (l.headD 0)=true):0<CL p l:=by
 cases l with
 | nil=>simp at h0
 | cons b l=>rw[UO (by simpa using h)];omega
theorem OM{l:List UInt8}(h0:0<l.length)(h:(lcut l).2.2=0):0<(lcut l).2.1/\(lcut l).2.1<=l.length:=by
 unfold lcut at h ⊢
 split
 ·rename_i h1
  exact⟨GH h0 h1,K9 _ _⟩
 rename_i h1
 rw[if_neg h1]at h
 split
 ·rename_i h2
  refine⟨?_,K9 _ _⟩
  refine GH h0 ?_
  match l,h2 with
  | b::c::l,h2=>simp at h2;simp[h2.1,Q4g]
  | [b],h2=>simp at h2
 rename_i h2
 rw[if_neg h2]at h
 split
 ·rename_i h3
  rw[if_pos h3]at h
  have hk:2<=l.length:=by
   have:=congrArg List.length h3
   rw[List.length_take]at this
   simp at this
   omega
  have:=JR (k:=2) hk h
  simp only at this ⊢
  omega
 rename_i h3
 rw[if_neg h3]at h
 split
 ·rename_i h4
  exact⟨GH h0 (by simp only[N7,h4,Bool.true_or]),K9 _ _⟩
 rename_i h4
 rw[if_neg h4]at h
 split
 ·rename_i h5
  exact⟨GH h0 (by simp only[N7,h5,Bool.or_true]),K9 _ _⟩
 rename_i h5
 rw[if_neg h5]at h
 split
 ·rename_i h6
  rw[if_pos h6]at h
  have:=JR (k:=1) (by omega) h
  simp only at this ⊢
  omega
 rename_i h6
 rw[if_neg h6]at h
 split
 ·exact⟨by simp,h0⟩
 ·rename_i h7
  rw[if_neg h7]at h
  simp at h
theorem CZ{l:List UInt8}(h0:0<l.length)(h:(lfirst l).2.2=0):0<(lfirst l).2.1/\(lfirst l).2.1<=l.length/\(lcut l).2.2=0/\(lfirst l).2.1=(lcut l).2.1/\(DK (lcut l).1 (l.take (lcut l).2.1)).2=0/\(lfirst l).1=(DK (lcut l).1 (l.take (lcut l).2.1)).1:=by
 unfold lfirst at h ⊢
 split
 ·rename_i h1;rw[if_pos h1]at h;exact absurd h h1
 rename_i h1
 rw[if_neg h1]at h
 split
 ·rename_i h2;rw[if_pos h2]at h;exact absurd h h2
 rename_i h2
 have:=OM h0 (by simpa using h1)
 exact⟨this.1,this.2,by simpa using h1,rfl,by simpa using h2,rfl⟩
def CG(p:Nat×Nat)(l:List UInt8):Nat×Nat:=l.foldl (fun p b=>if b=10 then(p.1+1,1)else(p.1,p.2+1)) p
theorem LM(p:Nat×Nat)(l m:List UInt8):CG p (l++m)=CG (CG p l) m:=by simp[CG]
theorem XN(p:Nat×Nat)(l:List UInt8)(b:UInt8):CG p (l++[b])=if b=10 then((CG p l).1+1,1)else((CG p l).1,(CG p l).2+1):=by
 rw[LM];simp[CG]
theorem L3:∀ (l:List UInt8) (p:Nat×Nat),(CG p l).1<=p.1+l.length/\(CG p l).2<=p.2+1+l.length
 | [],p=>by simp only[CG,List.foldl_nil,List.length_nil];omega
 | b::l,p=>by
  have e:CG p (b::l)=CG (if b=10 then(p.1+1,1)else(p.1,p.2+1)) l:=rfl
  rw[e]
  split
  ·have:=L3 l (p.1+1,1)
   simp only[List.length_cons]at this ⊢
   omega
  ·have:=L3 l (p.1,p.2+1)
   simp only[List.length_cons]at this ⊢
   omega
def BW(l:List UInt8)(at':Nat):Nat×Nat:=CG (1,1) (l.take at')
theorem MX(l:List UInt8)(i n:Nat):BW l (i+n)=CG (BW l i) ((l.drop i).take n):=by
 unfold BW
 rw[<- LM,List.take_add]
theorem SJ(l:List UInt8)(i:Nat):(BW l i).1<=1+l.length/\(BW l i).2<=2+l.length:=by
 have:=L3 (l.take i) (1,1)
 have h:(l.take i).length<=l.length:=by rw[List.length_take];omega
 unfold BW
 simp only at this ⊢
 omega
inductive Lex (l:List UInt8):Nat->List (Tok×Nat)->Nat->Nat->Prop
 | done {i:Nat}:i=l.length->Lex l i [] 0 0
 | bad {i:Nat}:i<l.length->(lfirst (l.drop i)).2.2≠0->Lex l i [] (lfirst (l.drop i)).2.2 i
 | gap {i:Nat} {ts e ea}:i<l.length->(lfirst (l.drop i)).2.2=0->(lcut (l.drop i)).1=0->Lex l (i+(lfirst (l.drop i)).2.1) ts e ea->Lex l i ts e ea
 | tok {i:Nat} {ts e ea}:i<l.length->(lfirst (l.drop i)).2.2=0->(lcut (l.drop i)).1≠0->Lex l (i+(lfirst (l.drop i)).2.1) ts e ea->Lex l i (((lfirst (l.drop i)).1,i)::ts) e ea
theorem Q2k(l:List UInt8):∀ (n i:Nat),i+n=l.length -> ∃ ts e ea,Lex l i ts e ea:=by
 intro n
 induction n using Nat.strongRecOn with
 | ind n ih=>
  intro i hi
  by_cases h0:i=l.length
  ·exact⟨_,_,_,.done h0⟩
  have hlt:i<l.length:=by omega
  by_cases hb:(lfirst (l.drop i)).2.2=0
  ·have hs:=CZ (l:=l.drop i) (by rw[List.length_drop];omega) hb
   rw[List.length_drop]at hs
   obtain⟨ts,e,ea,hL⟩:=ih (n-(lfirst (l.drop i)).2.1) (by omega) (i+(lfirst (l.drop i)).2.1) (by omega)
   by_cases hk:(lcut (l.drop i)).1=0
   ·exact⟨_,_,_,.gap hlt hb hk hL⟩
   ·exact⟨_,_,_,.tok hlt hb hk hL⟩
  ·exact⟨_,_,_,.bad hlt hb⟩
end
abbrev Ans(v:Value)(w:World)(e:Ending)(w':World):Prop:=e=.returned v/\w'=w
theorem QA(b c:UInt8):(b==c)=decide ((b.toNat:Int)=(c.toNat:Int)):=by
 by_cases h:b=c
 ·simp[h]
 ·have:¬ (b.toNat:Int)=(c.toNat:Int):=fun e=>h (UInt8.toNat_inj.1 (by omega))
  simp[h,this]
theorem EO(w:World)(b:UInt8):Calls Tryz.prog 113 #[.int .u8 (b.toNat:Int)] w (Ans (.bool (FU b)) w):=by
 have e:FU b=(decide ((b.toNat:Int)=32)||decide ((b.toNat:Int)=9)||decide ((b.toNat:Int)=13)||decide ((b.toNat:Int)=10)):=by
  simp only[FU,QA];rfl
 rw[e]
 clear e
 generalize(b.toNat:Int)=B
 go_enter Tryz.func113,Tryz.ntmps113
 go_wp2
 all_goals (go_ret;refine⟨congrArg (fun x=>Ending.returned (Value.bool x)) ?_,rfl⟩;rw[Bool.eq_iff_iff]<;>first | grind | (simp;done) | (simp;omega))
theorem KR(w:World)(b:UInt8):Calls Tryz.prog 121 #[.int .u8 (b.toNat:Int)] w (Ans (.bool (GQ b)) w):=by
 have e:GQ b=(decide ((b.toNat:Int)=34)||decide ((b.toNat:Int)=39)):=by
  simp only[GQ,QA];rfl
 rw[e]
 clear e
 generalize(b.toNat:Int)=B
 go_enter Tryz.func121,Tryz.ntmps121
 go_wp2
 all_goals (go_ret;refine⟨congrArg (fun x=>Ending.returned (Value.bool x)) ?_,rfl⟩;rw[Bool.eq_iff_iff]<;>first | grind | (simp;done) | (simp;omega))
theorem FD(w:World)(b:UInt8):Calls Tryz.prog 120 #[.int .u8 (b.toNat:Int)] w (Ans (.bool (lxFig b)) w):=by
 have e:lxFig b=decide (48<=(b.toNat:Int)/\(b.toNat:Int)<=57):=by
  simp only[lxFig];exact decide_eq_decide.2 (by omega)
 rw[e]
 clear e
 generalize(b.toNat:Int)=B
 go_enter Tryz.func120,Tryz.ntmps120
 go_wp2
 all_goals (go_ret;refine⟨congrArg (fun x=>Ending.returned (Value.bool x)) ?_,rfl⟩;rw[Bool.eq_iff_iff]<;>first | grind | (simp;done) | (simp;omega))
theorem DM(w:World)(b:UInt8):Calls Tryz.prog 118 #[.int .u8 (b.toNat:Int)] w (Ans (.bool (lxLet b)) w):=by
 have e:lxLet b=(decide (97<=(b.toNat:Int)/\(b.toNat:Int)<=122)||decide (65<=(b.toNat:Int)/\(b.toNat:Int)<=90)||decide ((b.toNat:Int)=95)):=by
  unfold lxLet;rw[QA,show((95:UInt8).toNat:Int)=95 from rfl,Bool.eq_iff_iff];simp only[Bool.or_eq_true,decide_eq_true_eq];omega
 rw[e]
 clear e
 generalize(b.toNat:Int)=B
 go_enter Tryz.func118,Tryz.ntmps118
 go_wp2
 all_goals (go_ret;refine⟨congrArg (fun x=>Ending.returned (Value.bool x)) ?_,rfl⟩;rw[Bool.eq_iff_iff]<;>first | grind | (simp;done) | (simp;omega))
theorem J6(w:World)(b:UInt8):Calls Tryz.prog 165 #[.int .u8 (b.toNat:Int)] w (Ans (.int .i64 (D6 b:Int)) w):=by
 have hB:=b.toNat_lt
 unfold D6
 generalize b.toNat=B at *
 go_enter Tryz.func165,Tryz.ntmps165
 go_wp2
 all_goals (go_ret;refine⟨congrArg (fun x=>Ending.returned (Value.int .i64 x)) ?_,rfl⟩;(repeat' split)<;>(try simp)<;>omega)
theorem Q1b(w:World)(b:UInt8):Calls Tryz.prog 119 #[.int .u8 (b.toNat:Int)] w (Ans (.bool (N7 b)) w):=by
 have H1:=Lib.hid (DM w b)
 have H2:=Lib.hid (FD w b)
 have e:N7 b=(lxLet b||lxFig b):=rfl
 rw[e]
 clear e
 generalize lxLet b=x at *
 generalize lxFig b=y at *
 go_enter Tryz.func119,Tryz.ntmps119
 go_wp2_with (first | (go_at_call 118;refine H1.out.mono ?_;rintro e w' ⟨rfl,rfl⟩) | (go_at_call 120;refine H2.out.mono ?_;rintro e w' ⟨rfl,rfl⟩))
 all_goals (go_ret;refine⟨congrArg (fun x=>Ending.returned (Value.bool x)) ?_,rfl⟩;simp_all)
def str(l:List UInt8):ByteArray:=⟨l.toArray⟩
theorem CH(l:List UInt8):(str l).toList=l:=ByteArray.toList_mk l
theorem Q02(l m:List UInt8):str l++str m=str (l++m):=by
 apply ByteArray.ext
 simp[str]
theorem BM(l:List UInt8):(str l).size=l.length:=by simp[str,ByteArray.size]
theorem GE(l:List UInt8)(a b:Nat):(str l).extract a b=str ((l.drop a).take (b-a)):=ByteArray.extract_mk l a b
theorem Q1V(l:List UInt8)(i:Nat)(h:i<(str l).size):(str l)[i]=l[i]'(by rw[BM]at h;exact h):=rfl
theorem C7(l:List UInt8)(i:Nat)(h:i<l.length)(u:World):(Instr.index 9 (.string (str l)) (.int .i64 (i:Int))).run Tryz.prog u=.ok (.int .u8 (l[i].toNat:Int)) u:=by
 rw[run_index_string (P:=Tryz.prog) u 9 (str l) .i64 i Tryz.underlying9,dif_pos ⟨by omega,by rw[BM];omega⟩]
 rfl
theorem IT(l:List UInt8)(k:Nat)(h:k<=l.length)(u:World):(Instr.slice 9 (.string (str l)) (some (.int .i64 (k:Int))) none none).run Tryz.prog u=.ok (.string (str (l.drop k))) u:=by
 rw[run_slice_string_from_if (P:=Tryz.prog) u 9 (str l) .i64 k Tryz.underlying9,if_pos ⟨by omega,by rw[BM];omega⟩,GE,BM,Int.toNat_natCast,List.take_of_length_le (by rw[List.length_drop];omega)]
theorem NP(l:List UInt8)(k:Nat)(h:k<=l.length)(u:World):(Instr.slice 9 (.string (str l)) none (some (.int .i64 (k:Int))) none).run Tryz.prog u=.ok (.string (str (l.take k))) u:=by
 rw[run_slice_string_to_if (P:=Tryz.prog) u 9 (str l) .i64 k Tryz.underlying9,if_pos ⟨by omega,by rw[BM];omega⟩,GE,Int.toNat_natCast,List.drop_zero,Nat.sub_zero]
theorem Q1z(l:List UInt8)(j k:Nat)(hj:j<=k)(h:k<=l.length)(u:World):(Instr.slice 9 (.string (str l)) (some (.int .i64 (j:Int))) (some (.int .i64 (k:Int))) none).run Tryz.prog u=.ok (.string (str ((l.drop j).take (k-j)))) u:=by
 rw[run_slice_string (P:=Tryz.prog) u 9 (str l) .i64 .i64 j k Tryz.underlying9 (by omega) (by omega) (by rw[BM];omega),GE,Int.toNat_natCast,Int.toNat_natCast]
abbrev Qui(v:Value)(w:World)(e:Ending)(w':World):Prop:=e=.returned v /\ ∃ n,w'=w.drewN n
theorem Q1J(x:Bool)(w:World):(Op.unary .not (.bool x)).run Tryz.prog w=.ok (.bool (!x)) w:=rfl
theorem NX{p:UInt8->Bool}{l:List UInt8}{j:Nat}(hj:j<=l.length)(h:∀ (i:Nat) b,i<j->l[i]?=some b->p b=true)(hs:∀ b,l[j]?=some b->p b=false):(CL p l:Int)=j:=by
 rw[X9 hj h hs]
theorem Q1K(w:World)(l:List UInt8)(p:UInt8->Bool)(k:FuncId)(hl:l.length<=140737488351232)(hen:∀ (args:Array Value) (u:World),(callFunc k args).run Tryz.prog u=.ok (.enter k args) u)(hk:∀ (b:UInt8) (m:Nat),Calls Tryz.prog k #[.int .u8 (b.toNat:Int)] (w.drewN m) (Qui (.bool (p b)) w)):
  Calls Tryz.prog 114 #[.string (str l),.func (.func k) #[] #[]] w (Qui (.int .i64 (CL p l:Int)) w):=by
 have hz:(str l).size=l.length:=BM l
 have HK:=Lib.hid hk
 clear hk
 go_enter Tryz.func114,Tryz.ntmps114
 go_wp2_with fail
 go_loopg [8] l.length (fun g s8 wx=>∃ j:Nat,j+g=l.length/\s8=.int .i64 (j:Int)/\(∃ n,wx=w.drewN n)/\Hid (∀ (i:Nat) b,i<j->l[i]?=some b->p b=true))
 case atStart=>exact⟨0,by omega,rfl,⟨0,rfl⟩,Lib.hid (fun _ _ h=>absurd h (Nat.not_lt_zero _))⟩
 case round=>
  obtain⟨j,hj,rfl,⟨n0,rfl⟩,HJ⟩:=hrel
  cases gk with
  | zero=>
   obtain rfl:j=l.length:=by omega
   have hlt:¬ ((l.length:Int)<(l.length:Int)):=by omega
   go_wp2_with fail
   go_ret
   exact⟨by rw[NX (Nat.le_refl _) HJ.out (fun b hb=>by simp at hb)];rfl,n0,rfl⟩
  | succ g=>
   have hlt:(j:Int)<(l.length:Int):=by omega
   have hjl:j<l.length:=by omega
   have hix:=C7 l j hjl
   obtain⟨b,hb⟩:∃ b,l[j]=b:=⟨_,rfl⟩
   rw[hb]at hix
   have hb':l[j]?=some b:=by rw[List.getElem?_eq_getElem hjl,hb]
   have HB:=Lib.hid hb'
   clear hb hb'
   have hnot:=Q1J
   go_wp2_with fail
   refine(HK.out b n0).mono ?_
   rintro e w' ⟨rfl,n1,rfl⟩
   cases hp:p b
   ·go_wp2_with fail
    go_ret
    exact⟨by rw[NX (by omega) HJ.out (fun c hc=>by rw[HB.out]at hc;cases hc;exact hp)];rfl,n1,rfl⟩
   ·have HP:=Lib.hid hp
    clear hp
    go_wp2_with fail
    go_roundg g
    case measure=>omega
    case rel=>
     refine⟨j+1,by omega,by go_num,⟨n1,rfl⟩,Lib.hid (fun i c hi hc=>?_)⟩
     by_cases e:i=j
     ·subst e;rw[HB.out]at hc;cases hc;exact HP.out
     ·exact HJ.out i c (by omega) hc
theorem ZK(w:World)(l:List UInt8)(p:UInt8->Bool)(k:FuncId)(c:Value)(hl:l.length<=140737488351232)(hen:∀ (args:Array Value) (u:World),(callFunc k args).run Tryz.prog u=.ok (.enter k args) u)(hk:∀ (b:UInt8) (m:Nat),Calls Tryz.prog k #[.int .u8 (b.toNat:Int),c] (w.drewN m) (Qui (.bool (p b)) w)):
  Calls Tryz.prog 114 #[.string (str l),.func (.func k) #[] #[c]] w (Qui (.int .i64 (CL p l:Int)) w):=by
 have hz:(str l).size=l.length:=BM l
 have HK:=Lib.hid hk
 clear hk
 go_enter Tryz.func114,Tryz.ntmps114
 go_wp2_with fail
 go_loopg [8] l.length (fun g s8 wx=>∃ j:Nat,j+g=l.length/\s8=.int .i64 (j:Int)/\(∃ n,wx=w.drewN n)/\Hid (∀ (i:Nat) b,i<j->l[i]?=some b->p b=true))
 case atStart=>exact⟨0,by omega,rfl,⟨0,rfl⟩,Lib.hid (fun _ _ h=>absurd h (Nat.not_lt_zero _))⟩
 case round=>
  obtain⟨j,hj,rfl,⟨n0,rfl⟩,HJ⟩:=hrel
  cases gk with
  | zero=>
   obtain rfl:j=l.length:=by omega
   have hlt:¬ ((l.length:Int)<(l.length:Int)):=by omega
   go_wp2_with fail
   go_ret
   exact⟨by rw[NX (Nat.le_refl _) HJ.out (fun b hb=>by simp at hb)];rfl,n0,rfl⟩
  | succ g=>
   have hlt:(j:Int)<(l.length:Int):=by omega
   have hjl:j<l.length:=by omega
   have hix:=C7 l j hjl
   obtain⟨b,hb⟩:∃ b,l[j]=b:=⟨_,rfl⟩
   rw[hb]at hix
   have hb':l[j]?=some b:=by rw[List.getElem?_eq_getElem hjl,hb]
   have HB:=Lib.hid hb'
   clear hb hb'
   have hnot:=Q1J
   go_wp2_with fail
   refine(HK.out b n0).mono ?_
   rintro e w' ⟨rfl,n1,rfl⟩
   cases hp:p b
   ·go_wp2_with fail
    go_ret
    exact⟨by rw[NX (by omega) HJ.out (fun c hc=>by rw[HB.out]at hc;cases hc;exact hp)];rfl,n1,rfl⟩
   ·have HP:=Lib.hid hp
    clear hp
    go_wp2_with fail
    go_roundg g
    case measure=>omega
    case rel=>
     refine⟨j+1,by omega,by go_num,⟨n1,rfl⟩,Lib.hid (fun i c hi hc=>?_)⟩
     by_cases e:i=j
     ·subst e;rw[HB.out]at hc;cases hc;exact HP.out
     ·exact HJ.out i c (by omega) hc
end Go.Proofs.YtgcphgdkddihcaaGreatDoor
namespace Go.Proofs
open Go.Shelf
def Tryz.lays119_ren:Go.Shelf.Ren:=⟨fun | 119=>226 | n=>n,fun | 21=>21 | 4=>4 | n=>n,fun | n=>n⟩
theorem Tryz.lays119:Go.Proofs.Lays.n119 Tryz.prog Tryz.lays119_ren:={
 mixed:=by kernel_rfl
 f119:=Tryz.func226.trans (congrArg some (by kernel_rfl))
 t4:=Tryz.underlying4
 a4:=Tryz.isAgg4
 z4:=Tryz.sizeOf4
 v4:=Tryz.zeroValue4
 t21:=Tryz.underlying21
 a21:=Tryz.isAgg21
 z21:=Tryz.sizeOf21
 v21:=Tryz.zeroValue21 }
theorem Tryz.utf8_ValidRune(r:Int)(w:World):
  Calls Tryz.prog 226 #[.int .i32 r] w fun e w'=>e=.returned (.bool (Lib.validRune r))/\w'=w:=Any.utf8_ValidRune Tryz.lays119 r w
def Tryz.lays137_ren:Go.Shelf.Ren:=⟨fun | 137=>122 | 217=>163 | 266=>198 | n=>n,fun | 9=>9 | 5=>5 | 3=>3 | n=>n,fun | n=>n⟩
theorem Tryz.lays137:Go.Proofs.Lays.n137 Tryz.prog Tryz.lays137_ren:={
 mixed:=by kernel_rfl
 f137:=Tryz.func122.trans (congrArg some (by kernel_rfl))
 f217:=Tryz.func163.trans (congrArg some (by kernel_rfl))
 f266:=Tryz.func198.trans (congrArg some (by kernel_rfl))
 t3:=Tryz.underlying3
 a3:=Tryz.isAgg3
 z3:=Tryz.sizeOf3
 v3:=Tryz.zeroValue3
 t5:=Tryz.underlying5
 a5:=Tryz.isAgg5
 z5:=Tryz.sizeOf5
 v5:=Tryz.zeroValue5
 t9:=Tryz.underlying9
 a9:=Tryz.isAgg9
 z9:=Tryz.sizeOf9
 v9:=Tryz.zeroValue9 }
open Go.RowKit in
theorem Tryz.strings_IndexByte(s:ByteArray)(c:Int)(w:World):
  Calls Tryz.prog 122 #[.string s,.int .u8 c] w fun e w'=>e=.returned (.int .i64 (Lib.indexByte s.data.toList c.toNat.toUInt8))/\w'=w:=Any.strings_IndexByte Tryz.lays137 s c w
def Tryz.laysM316_ren:Go.Shelf.Ren:=⟨fun | 316=>136 | n=>n,fun | 9=>9 | 3=>3 | 4=>4 | 37=>154 | 0=>0 | 127=>317 | 5=>5 | n=>n,fun | n=>n⟩
theorem Tryz.laysM316:Go.Proofs.LaysM.n316 Tryz.prog Tryz.laysM316_ren:={
 mixed:=by kernel_rfl
 f316:=Tryz.func136.trans (congrArg some (by kernel_rfl))
 t0:=Tryz.underlying0
 a0:=Tryz.isAgg0
 z0:=Tryz.sizeOf0
 v0:=Tryz.zeroValue0
 t3:=Tryz.underlying3
 a3:=Tryz.isAgg3
 z3:=Tryz.sizeOf3
 v3:=Tryz.zeroValue3
 t4:=Tryz.underlying4
 a4:=Tryz.isAgg4
 z4:=Tryz.sizeOf4
 v4:=Tryz.zeroValue4
 t9:=Tryz.underlying9
 a9:=Tryz.isAgg9
 z9:=Tryz.sizeOf9
 v9:=Tryz.zeroValue9
 t37:=Tryz.underlying154
 a37:=Tryz.isAgg154
 z37:=Tryz.sizeOf154
 v37:=Tryz.zeroValue154
 t127:=Tryz.underlying317
 a127:=Tryz.isAgg317
 z127:=Tryz.sizeOf317
 v127:=Tryz.zeroValue317
 t5:=Tryz.underlying5
 a5:=Tryz.isAgg5
 z5:=Tryz.sizeOf5
 v5:=Tryz.zeroValue5
 i0:=by kernel_rfl
 i3:=by kernel_rfl
 i4:=by kernel_rfl
 i5:=by kernel_rfl
 i9:=by kernel_rfl
 i37:=by kernel_rfl
 i127:=by kernel_rfl }
open Go.RowKit in
theorem Tryz.stringslite_Clone(s:ByteArray)(w:World)(hlim:s.size<=281474976710656):
  Calls Tryz.prog 136 #[.string s] w fun e w'=>e=.returned (.string s)/\Below w.heap.size w w':=Any.stringslite_Clone Tryz.laysM316 s w hlim
def Tryz.lays143_ren:Go.Shelf.Ren:=⟨fun | 143=>162 | 219=>197 | 217=>163 | 225=>223 | 224=>224 | 267=>225 | 266=>198 | 314=>241 | n=>n,fun | 9=>9 | 3=>3 | 4=>4 | 5=>5 | 46=>287 | 146=>370 | 51=>339 | n=>n,fun | 1=>21 | n=>n⟩
theorem Tryz.lays143:Go.Proofs.Lays.n143 Tryz.prog Tryz.lays143_ren:={
 mixed:=by kernel_rfl
 f143:=Tryz.func162.trans (congrArg some (by kernel_rfl))
 f217:=Tryz.func163.trans (congrArg some (by kernel_rfl))
 f219:=Tryz.func197.trans (congrArg some (by kernel_rfl))
 f224:=Tryz.func224.trans (congrArg some (by kernel_rfl))
 f225:=Tryz.func223.trans (congrArg some (by kernel_rfl))
 f266:=Tryz.func198.trans (congrArg some (by kernel_rfl))
 f267:=Tryz.func225.trans (congrArg some (by kernel_rfl))
 f314:=Tryz.func241.trans (congrArg some (by kernel_rfl))
 t3:=Tryz.underlying3
 a3:=Tryz.isAgg3
 z3:=Tryz.sizeOf3
 v3:=Tryz.zeroValue3
 t4:=Tryz.underlying4
 a4:=Tryz.isAgg4
 z4:=Tryz.sizeOf4
 v4:=Tryz.zeroValue4
 t5:=Tryz.underlying5
 a5:=Tryz.isAgg5
 z5:=Tryz.sizeOf5
 v5:=Tryz.zeroValue5
 t9:=Tryz.underlying9
 a9:=Tryz.isAgg9
 z9:=Tryz.sizeOf9
 v9:=Tryz.zeroValue9
 t46:=Tryz.underlying287
 a46:=Tryz.isAgg287
 z46:=Tryz.sizeOf287
 v46:=Tryz.zeroValue287
 t51:=Tryz.underlying339
 a51:=Tryz.isAgg339
 z51:=Tryz.sizeOf339
 v51:=Tryz.zeroValue339
 t146:=Tryz.underlying370
 a146:=Tryz.isAgg370
 z146:=Tryz.sizeOf370
 v146:=Tryz.zeroValue370
 g1:=by kernel_rfl }
open Go.RowKit Go.Lib in
theorem Tryz.strings_Index(s sub:ByteArray)(m:Int)(w:World)(hs:s.size<4294967281)(hm:w.cell? ⟨21,0,none⟩=some (.int .i64 m)):
  Calls Tryz.prog 162 #[.string s,.string sub] w fun e w'=>e=.returned (.int .i64 (Lib.index s.data.toList sub.data.toList))/\w'=w:=Any.strings_Index Tryz.lays143 s sub m w hs hm
def Tryz.laysM219_ren:Go.Shelf.Ren:=⟨fun | 219=>197 | 217=>163 | 225=>223 | 224=>224 | 267=>225 | 266=>198 | 314=>241 | n=>n,fun | 9=>9 | 3=>3 | 4=>4 | 5=>5 | 46=>287 | 146=>370 | 51=>339 | n=>n,fun | 1=>21 | n=>n⟩
theorem Tryz.laysM219:Go.Proofs.LaysM.n219 Tryz.prog Tryz.laysM219_ren:={
 mixed:=by kernel_rfl
 f217:=Tryz.func163.trans (congrArg some (by kernel_rfl))
 f219:=Tryz.func197.trans (congrArg some (by kernel_rfl))
 f224:=Tryz.func224.trans (congrArg some (by kernel_rfl))
 f225:=Tryz.func223.trans (congrArg some (by kernel_rfl))
 f266:=Tryz.func198.trans (congrArg some (by kernel_rfl))
 f267:=Tryz.func225.trans (congrArg some (by kernel_rfl))
 f314:=Tryz.func241.trans (congrArg some (by kernel_rfl))
 t3:=Tryz.underlying3
 a3:=Tryz.isAgg3
 z3:=Tryz.sizeOf3
 v3:=Tryz.zeroValue3
 t4:=Tryz.underlying4
 a4:=Tryz.isAgg4
 z4:=Tryz.sizeOf4
 v4:=Tryz.zeroValue4
 t5:=Tryz.underlying5
 a5:=Tryz.isAgg5
 z5:=Tryz.sizeOf5
 v5:=Tryz.zeroValue5
 t9:=Tryz.underlying9
 a9:=Tryz.isAgg9
 z9:=Tryz.sizeOf9
 v9:=Tryz.zeroValue9
 t46:=Tryz.underlying287
 a46:=Tryz.isAgg287
 z46:=Tryz.sizeOf287
 v46:=Tryz.zeroValue287
 t51:=Tryz.underlying339
 a51:=Tryz.isAgg339
 z51:=Tryz.sizeOf339
 v51:=Tryz.zeroValue339
 t146:=Tryz.underlying370
 a146:=Tryz.isAgg370
 z146:=Tryz.sizeOf370
 v146:=Tryz.zeroValue370
 g1:=by kernel_rfl
 i3:=by kernel_rfl
 i4:=by kernel_rfl
 i5:=by kernel_rfl
 i9:=by kernel_rfl
 i46:=by kernel_rfl
 i51:=by kernel_rfl
 i146:=by kernel_rfl
 m1:=by kernel_rfl
 s1_3:=fun w h=>Go.Proofs.cell_of_shapedOpen_int (zero := #[.int .i64 0]) (t:=3) h (of_decide_eq_true (by kernel_rfl)) (by kernel_rfl) rfl (by kernel_rfl) (by kernel_rfl) Tryz.underlying3 }
def Tryz.lays99_ren:Go.Shelf.Ren:=⟨fun | 99=>115 | 206=>160 | n=>n,fun | 9=>9 | 4=>4 | 3=>3 | n=>n,fun | n=>n⟩
theorem Tryz.lays99:Go.Proofs.Lays.n99 Tryz.prog Tryz.lays99_ren:={
 mixed:=by kernel_rfl
 f99:=Tryz.func115.trans (congrArg some (by kernel_rfl))
 f206:=Tryz.func160.trans (congrArg some (by kernel_rfl))
 t3:=Tryz.underlying3
 a3:=Tryz.isAgg3
 z3:=Tryz.sizeOf3
 v3:=Tryz.zeroValue3
 t4:=Tryz.underlying4
 a4:=Tryz.isAgg4
 z4:=Tryz.sizeOf4
 v4:=Tryz.zeroValue4
 t9:=Tryz.underlying9
 a9:=Tryz.isAgg9
 z9:=Tryz.sizeOf9
 v9:=Tryz.zeroValue9 }
open Go.RowKit Go.Lib in
theorem Tryz.strings_HasPrefix(s p:ByteArray)(w:World):
  Calls Tryz.prog 115 #[.string s,.string p] w fun e w'=>e=.returned (.bool (Lib.hasPrefix s.data.toList p.data.toList))/\w'=w:=Any.strings_HasPrefix Tryz.lays99 s p w
def Tryz.lays152_ren:Go.Shelf.Ren:=⟨fun | 152=>200 | 137=>122 | 119=>226 | 224=>224 | 225=>223 | 217=>163 | 266=>198 | n=>n,fun | 9=>9 | 21=>21 | 3=>3 | 4=>4 | 5=>5 | 0=>0 | 46=>287 | n=>n,fun | n=>n⟩
theorem Tryz.lays152:Go.Proofs.Lays.n152 Tryz.prog Tryz.lays152_ren:={
 mixed:=by kernel_rfl
 f119:=Tryz.func226.trans (congrArg some (by kernel_rfl))
 f137:=Tryz.func122.trans (congrArg some (by kernel_rfl))
 f152:=Tryz.func200.trans (congrArg some (by kernel_rfl))
 f217:=Tryz.func163.trans (congrArg some (by kernel_rfl))
 f224:=Tryz.func224.trans (congrArg some (by kernel_rfl))
 f225:=Tryz.func223.trans (congrArg some (by kernel_rfl))
 f266:=Tryz.func198.trans (congrArg some (by kernel_rfl))
 t0:=Tryz.underlying0
 a0:=Tryz.isAgg0
 z0:=Tryz.sizeOf0
 v0:=Tryz.zeroValue0
 t3:=Tryz.underlying3
 a3:=Tryz.isAgg3
 z3:=Tryz.sizeOf3
 v3:=Tryz.zeroValue3
 t4:=Tryz.underlying4
 a4:=Tryz.isAgg4
 z4:=Tryz.sizeOf4
 v4:=Tryz.zeroValue4
 t5:=Tryz.underlying5
 a5:=Tryz.isAgg5
 z5:=Tryz.sizeOf5
 v5:=Tryz.zeroValue5
 t9:=Tryz.underlying9
 a9:=Tryz.isAgg9
 z9:=Tryz.sizeOf9
 v9:=Tryz.zeroValue9
 t21:=Tryz.underlying21
 a21:=Tryz.isAgg21
 z21:=Tryz.sizeOf21
 v21:=Tryz.zeroValue21
 t46:=Tryz.underlying287
 a46:=Tryz.isAgg287
 z46:=Tryz.sizeOf287
 v46:=Tryz.zeroValue287 }
open Go.RowKit Go.Lib in
theorem Tryz.strings_IndexRune_ascii(s:ByteArray)(r:Int)(w:World)(h0:0<=r)(h1:r<128):
  Calls Tryz.prog 200 #[.string s,.int .i32 r] w fun e w'=>e=.returned (.int .i64 (Lib.indexByte s.data.toList r.toNat.toUInt8))/\w'=w:=Any.strings_IndexRune_ascii Tryz.lays152 s r w h0 h1
def Tryz.lays226_ren:Go.Shelf.Ren:=⟨fun | 226=>201 | n=>n,fun | 3=>3 | 4=>4 | n=>n,fun | n=>n⟩
theorem Tryz.lays226:Go.Proofs.Lays.n226 Tryz.prog Tryz.lays226_ren:={
 mixed:=by kernel_rfl
 f226:=Tryz.func201.trans (congrArg some (by kernel_rfl))
 t3:=Tryz.underlying3
 a3:=Tryz.isAgg3
 z3:=Tryz.sizeOf3
 v3:=Tryz.zeroValue3
 t4:=Tryz.underlying4
 a4:=Tryz.isAgg4
 z4:=Tryz.sizeOf4
 v4:=Tryz.zeroValue4 }
open Go.RowKit Go.Lib in
theorem Tryz.strings_shouldUseASCIISet(n:Int)(w:World):
  Calls Tryz.prog 201 #[.int .i64 n] w fun e w'=>e=.returned (.bool (decide (8<n)))/\w'=w:=Any.strings_shouldUseASCIISet Tryz.lays226 n w
def Tryz.lays153_ren:Go.Shelf.Ren:=⟨fun | 153=>166 | 152=>200 | 226=>201 | 227=>202 | 228=>203 | 137=>122 | 119=>226 | 224=>224 | 225=>223 | 217=>163 | 266=>198 | n=>n,fun | 9=>9 | 3=>3 | 4=>4 | 5=>5 | 21=>21 | 117=>346 | 116=>345 | 0=>0 | 46=>287 | 124=>363 | n=>n,fun | n=>n⟩
theorem Tryz.lays153:Go.Proofs.Lays.n153 Tryz.prog Tryz.lays153_ren:={
 mixed:=by kernel_rfl
 f119:=Tryz.func226.trans (congrArg some (by kernel_rfl))
 f137:=Tryz.func122.trans (congrArg some (by kernel_rfl))
 f152:=Tryz.func200.trans (congrArg some (by kernel_rfl))
 f153:=Tryz.func166.trans (congrArg some (by kernel_rfl))
 f217:=Tryz.func163.trans (congrArg some (by kernel_rfl))
 f224:=Tryz.func224.trans (congrArg some (by kernel_rfl))
 f225:=Tryz.func223.trans (congrArg some (by kernel_rfl))
 f226:=Tryz.func201.trans (congrArg some (by kernel_rfl))
 f227:=Tryz.func202.trans (congrArg some (by kernel_rfl))
 f228:=Tryz.func203.trans (congrArg some (by kernel_rfl))
 f266:=Tryz.func198.trans (congrArg some (by kernel_rfl))
 t0:=Tryz.underlying0
 a0:=Tryz.isAgg0
 z0:=Tryz.sizeOf0
 v0:=Tryz.zeroValue0
 t3:=Tryz.underlying3
 a3:=Tryz.isAgg3
 z3:=Tryz.sizeOf3
 v3:=Tryz.zeroValue3
 t4:=Tryz.underlying4
 a4:=Tryz.isAgg4
 z4:=Tryz.sizeOf4
 v4:=Tryz.zeroValue4
 t5:=Tryz.underlying5
 a5:=Tryz.isAgg5
 z5:=Tryz.sizeOf5
 v5:=Tryz.zeroValue5
 t9:=Tryz.underlying9
 a9:=Tryz.isAgg9
 z9:=Tryz.sizeOf9
 v9:=Tryz.zeroValue9
 t21:=Tryz.underlying21
 a21:=Tryz.isAgg21
 z21:=Tryz.sizeOf21
 v21:=Tryz.zeroValue21
 t46:=Tryz.underlying287
 a46:=Tryz.isAgg287
 z46:=Tryz.sizeOf287
 v46:=Tryz.zeroValue287
 t116:=Tryz.underlying345
 a116:=Tryz.isAgg345
 z116:=Tryz.sizeOf345
 t117:=Tryz.underlying346
 a117:=Tryz.isAgg346
 z117:=Tryz.sizeOf346
 v117:=Tryz.zeroValue346
 t124:=Tryz.underlying363
 a124:=Tryz.isAgg363
 z124:=Tryz.sizeOf363
 v124:=Tryz.zeroValue363 }
open Go.RowKit Go.Lib in
theorem Tryz.strings_IndexAny_long(hv116:∀ w,(zeroValue 345).run Tryz.prog w=.ok (.agg (Array.replicate 256 (.bool false))) w)(s chars:ByteArray)(w:World)(h2:2<=chars.size)(h8:8<s.size)(hs:s.size<4294967281)(hcs:chars.size<4294967281)(hascii:∀ (j:Nat) b,chars.data.toList[j]?=some b->b.toNat<128):
  Calls Tryz.prog 166 #[.string s,.string chars] w fun e w'=>e=.returned (.int .i64 (Lib.indexAny s.data.toList chars.data.toList))/\w'=((w.alloc (.cells (Lib.setCells chars.data.toList) 345)).alloc (.cells (Lib.setCells chars.data.toList) 345)):=Any.strings_IndexAny_long Tryz.lays153 hv116 (by kernel_rfl) s chars w h2 h8 hs hcs hascii
end Go.Proofs
namespace Go.Proofs.YtgcphgdkddihcaaGreatDoor
open Go.RowKit
structure Lx (w:World) (A:Nat->Addr) (m:Int):Prop where
 range:w.cell? ⟨4,0,none⟩=some (errV A 0)
 long:w.cell? ⟨0,0,none⟩=some (errV A 2)
 form:w.cell? ⟨1,0,none⟩=some (errV A 8)
 max:w.cell? ⟨21,0,none⟩=some (.int .i64 m)
theorem Lx.below{w w':World}{A:Nat->Addr}{m:Int}(h:Lx w A m)(hb:Below w.heap.size w w'):Lx w' A m:=by
 have k:∀ {g:Nat} {v:Value},w.cell? ⟨g,0,none⟩=some v->w'.cell? ⟨g,0,none⟩=some v:=fun{g v} hc=>(hb.cell (p:=⟨g,0,none⟩) (World.block_lt_of_cell? w ⟨g,0,none⟩ hc)).trans hc
 exact⟨k h.range,k h.long,k h.form,k h.max⟩
theorem Lx.drewN{w:World}{A:Nat->Addr}{m:Int}(h:Lx w A m)(n:Nat):Lx (w.drewN n) A m:=⟨h.range,h.long,h.form,h.max⟩
theorem VS(args:Array Value)(u:World):(callFunc 113 args).run Tryz.prog u=.ok (.enter 113 args) u:=Go.Proofs.enters_of Tryz.func113 (by kernel_rfl) rfl args u
theorem TJ(args:Array Value)(u:World):(callFunc 119 args).run Tryz.prog u=.ok (.enter 119 args) u:=Go.Proofs.enters_of Tryz.func119 (by kernel_rfl) rfl args u
theorem VN(args:Array Value)(u:World):(callFunc 161 args).run Tryz.prog u=.ok (.enter 161 args) u:=Go.Proofs.enters_of Tryz.func161 (by kernel_rfl) rfl args u
theorem TQ(args:Array Value)(u:World):(callFunc 199 args).run Tryz.prog u=.ok (.enter 199 args) u:=Go.Proofs.enters_of Tryz.func199 (by kernel_rfl) rfl args u
theorem JO(fn:Fn)(first cap:Array Value)(w:World):(Instr.makeFunc fn first cap).run Tryz.prog w=.ok (.func fn first cap) w:=rfl
theorem Q2F(u:World)(b c:UInt8)(a:Addr)(hc:u.cell? a=some (.int .u8 (c.toNat:Int))):
  Calls Tryz.prog 161 #[.int .u8 (b.toNat:Int),.pointer (some a)] u (Ans (.bool (b != c)) u):=by
 have e:(b != c)=((b.toNat:Int) != (c.toNat:Int)):=by
  rw[bne,QA,bne];rfl
 rw[e]
 generalize(b.toNat:Int)=B at *
 generalize(c.toNat:Int)=C at *
 go_enter Tryz.func161,Tryz.ntmps161
 go_wp2
 all_goals (go_ret;exact⟨rfl,rfl⟩)
theorem TX(w:World)(c:UInt8):Calls Tryz.prog 116 #[.int .u8 (c.toNat:Int)] w fun e w'=>
  e=.returned (.func (.func 161) #[] #[.pointer (some ⟨w.heap.size,0,none⟩)])/\w'=w.alloc (.cells #[.int .u8 (c.toNat:Int)] 5):=by
 have hmf:=JO
 go_enter Tryz.func116,Tryz.ntmps116
 go_wp2
 go_ret
 exact⟨rfl,rfl⟩
theorem Q07(u:World)(b:UInt8)(n:Int)(a:Addr)(hc:u.cell? a=some (.int .i64 n)):
  Calls Tryz.prog 199 #[.int .u8 (b.toNat:Int),.pointer (some a)] u (Qui (.bool (decide ((D6 b:Int)<n))) u):=by
 have HD:=Lib.hid (fun u=>J6 u b)
 generalize(D6 b:Int)=d at *
 go_enter Tryz.func199,Tryz.ntmps199
 go_wp2_with fail
 go_quiet (refine Calls.quiet_of_same (HD.out _))
 go_wp2
 all_goals (go_ret;exact⟨rfl,_,rfl⟩)
theorem D7(w:World)(n:Int):Calls Tryz.prog 164 #[.int .i64 n] w fun e w'=>
  e=.returned (.func (.func 199) #[] #[.pointer (some ⟨w.heap.size,0,none⟩)])/\w'=w.alloc (.cells #[.int .i64 n] 3):=by
 have hmf:=JO
 go_enter Tryz.func164,Tryz.ntmps164
 go_wp2
 go_ret
 exact⟨rfl,rfl⟩
theorem Q3H(w:World)(l:List UInt8)(hl:l.length<=140737488351232):Calls Tryz.prog 114 #[.string (str l),.func (.func 113) #[] #[]] w (Qui (.int .i64 (CL FU l:Int)) w):=
 Q1K w l FU _ hl VS fun b m=>(EO _ b).mono fun _ _ ⟨h1,h2⟩=>⟨h1,m,h2⟩
theorem Q1F(w:World)(l:List UInt8)(hl:l.length<=140737488351232):Calls Tryz.prog 114 #[.string (str l),.func (.func 119) #[] #[]] w (Qui (.int .i64 (CL N7 l:Int)) w):=
 Q1K w l N7 _ hl TJ fun b m=>(Q1b _ b).mono fun _ _ ⟨h1,h2⟩=>⟨h1,m,h2⟩
theorem Q1k(w:World)(l:List UInt8)(a:Addr)(hl:l.length<=140737488351232)(hc:w.cell? a=some (.int .u8 10)):Calls Tryz.prog 114 #[.string (str l),.func (.func 161) #[] #[.pointer (some a)]] w (Qui (.int .i64 (CL Q4g l:Int)) w):=
 ZK w l Q4g _ _ hl VN fun b m=>(Q2F (w.drewN m) b 10 a hc).mono fun _ _ ⟨h1,h2⟩=>⟨h1,m,h2⟩
theorem DO(w:World)(l:List UInt8)(a:Addr)(n:Nat)(hl:l.length<=140737488351232)(hc:w.cell? a=some (.int .i64 (n:Int))):Calls Tryz.prog 114 #[.string (str l),.func (.func 199) #[] #[.pointer (some a)]] w (Qui (.int .i64 (CL (fun b=>decide (D6 b<n)) l:Int)) w):=
 ZK w l _ _ _ hl TQ fun b m=>(Q07 (w.drewN m) b n a hc).mono fun _ _ ⟨h1,k,h2⟩=>⟨by rw[h1];congr 3;exact propext Int.ofNat_lt,m+k,by rw[h2,World.drewN_drewN]⟩
theorem QO(w:World)(A:Nat->Addr)(m:Int)(hL:Lx w A m)(l g e:List UInt8)(hl:l.length<1000000000)(hg:g.length<=l.length)(he:e.length<=1000):
  Calls Tryz.prog 117 #[.string (str l),.string (str g),.string (str e)] w fun en w'=>en=.returned (.tuple #[.int .i64 ((FC g.length e l).1:Int),FV A (FC g.length e l).2]) /\ ∃ n,w'=w.drewN n:=by
 have hgz:(str g).size=g.length:=BM g
 have hez:(str e).size=e.length:=BM e
 have hfrom:=IT l g.length hg
 have HI:=Lib.hid (Tryz.strings_Index (str (l.drop g.length)) (str e) m w (by rw[BM,List.length_drop];omega) hL.max)
 have hd:(str (l.drop g.length)).data.toList=l.drop g.length:=by simp[str]
 have hd':(str e).data.toList=e:=by simp[str]
 rw[hd,hd']at HI
 have hle:=Lib.index_le (l.drop g.length) e
 rw[List.length_drop]at hle
 have hform:=hL.form
 unfold FC
 generalize Lib.index (l.drop g.length) e=I at *
 clear hd hd'
 by_cases hneg:I<0
 ·rw[if_pos hneg,show FV A 9=errV A 8 from rfl]
  go_enter Tryz.func117,Tryz.ntmps117
  go_wp2_with fail
  refine HI.out.mono ?_
  rintro e w' ⟨rfl,rfl⟩
  go_wp2_with fail
  go_quiet (fail)
  go_wp2_with fail
  go_ret2
  exact⟨rfl,_,rfl⟩
 ·rw[if_neg hneg,show FV A 0=Value.nilIface from rfl]
  obtain⟨i,rfl⟩:∃ i:Nat,I=(i:Int):=⟨I.toNat,by omega⟩
  go_enter Tryz.func117,Tryz.ntmps117
  go_wp2_with fail
  refine HI.out.mono ?_
  rintro e w' ⟨rfl,rfl⟩
  go_wp2_with fail
  go_ret2
  exact⟨by rw[Int.toNat_natCast];rfl,0,rfl⟩
theorem D8{fn:Func}{p u:Tmp}{ty:TypeId}(h:fn.results = #[.cell p ty,.tmp u])(tmps:Array Value)(w:World)(g:Nat)(t:TypeId)(cs:List Value)(fs:Array Field)
  (hp:tmps.getD p undef=.pointer (some ⟨g,0,none⟩)) (hg:Blk w g t cs)
  (hu:Tryz.prog.underlying ty=some (.struct fs)) (hi:(Tryz.prog.info? ty).map (·.size)=some cs.toArray.size):
  (results fn tmps).run Tryz.prog w=.ok (.tuple #[.agg cs.toArray,tmps.getD u undef]) w:=by
 have hp':tmps[p]?.getD undef=.pointer (some ⟨g,0,none⟩):=by simpa using hp
 simp[results,h,hp',asAddr,run_loadVar_row w g t ty cs.toArray (0,0) (.struct fs) hg hu rfl hi]
theorem JC{fn:Func}{p u v:Tmp}{ty:TypeId}(h:fn.results = #[.cell p ty,.tmp u,.tmp v])(tmps:Array Value)(w:World)(g:Nat)(t:TypeId)(cs:List Value)(fs:Array Field)
  (hp:tmps.getD p undef=.pointer (some ⟨g,0,none⟩)) (hg:Blk w g t cs)
  (hu:Tryz.prog.underlying ty=some (.struct fs)) (hi:(Tryz.prog.info? ty).map (·.size)=some cs.toArray.size):
  (results fn tmps).run Tryz.prog w=.ok (.tuple #[.agg cs.toArray,tmps.getD u undef,tmps.getD v undef]) w:=by
 have hp':tmps[p]?.getD undef=.pointer (some ⟨g,0,none⟩):=by simpa using hp
 simp[results,h,hp',asAddr,run_loadVar_row w g t ty cs.toArray (0,0) (.struct fs) hg hu rfl hi]
section
open Go.RowKit Go.Extern.Stop Go.Stop Go.Extern
abbrev Q68:TypeId:=124
def ErrT(w:World):Prop:=w.cell? ⟨3,0,none⟩=some (.iface 289 (.agg #[.pointer (some ⟨22,28,none⟩)]))
theorem ErrT.below{w w':World}(h:ErrT w)(hb:Below w.heap.size w w'):ErrT w':=(hb.cell (p:=⟨_,0,none⟩) (World.block_lt_of_cell? w ⟨_,0,none⟩ h)).trans h
end
section
open Go.RowKit Go.ChangeShapes
theorem OC{H:Type}{enc:TypeId×Value->H}{a:Assume}{C:Checked}{os:Os}{f:FuncId}{fn:Func}{s:ChangeSpec}{conds:List PathCond}{apart fresh handsOn again:Bool}{X:World->Array Value->Prop}
  (hX:∀ (w w':World) (args:Array Value),w.heap=w'.heap->X w args->X w' args)
  (own:ownKnob C.prog.godebug=none) (started:os.Started) (noInit:C.prog.inits.idxOf? f=none) (hfn:C.prog.funcs[f]?=some fn)
  (witness:∃ (w:World) (tape:Tape) (i:Input),w.os=os/\(w.forCall tape i).Shaped C.prog/\i.vars=[]/\Input.okWide C.prog (w.forCall tape i) .any w.heap.size f i /\
   ((s.pre enc C.prog fn conds apart (w.forCall tape i).memory i.args/\X (w.forCall tape i).memory i.args)/\sizedMet enc C.prog fn (OpenSpec.ofChange s) apart (w.forCall tape i).memory i.args)/\a.holds C.prog (lone (Frame.enter C.prog f i.args .normal) [] (w.forCall tape i)))
  (RR:∀ (W:World) (base:Nat) (args:Array Value) (ds gs:List (DataW H)) (before:List MemPlace),
   (∀ (j:Nat) t v,fn.params[j]?=some t->args[j]?=some v->Value.okWide C.prog W .any base t v) ->
   DataW.Whole enc C.prog fn.params.toList s.vars apart W args.toList ds gs before->X W args->W.ShapedOpen C.prog ->
   Calls C.prog f args W fun e W'=>∃ v,e=.returned v/\s.post enc C.prog fn apart fresh handsOn again W args v W'):
  ReturnsInHanded a C os f .any (fun w args=>(s.pre enc C.prog fn conds apart w args/\X w args)/\sizedMet enc C.prog fn (OpenSpec.ofChange s) apart w args) (s.post enc C.prog fn apart fresh handsOn again):=by
 refine returnsInHanded_of_calls own started noInit witness ?_
 intro w tape i _ hsh _ hok hpre _
 obtain⟨_,_,_,fn',hfn',_,_,_,_,hval⟩:=hok
 obtain rfl:fn'=fn:=Option.some.inj (hfn'.symm.trans hfn)
 obtain⟨⟨⟨ds,gs,before,hw,_⟩,hx⟩,_⟩:=hpre
 refine(RR (w.forCall tape i) w.heap.size i.args ds gs before hval (DataW.Whole.of_heap (w':=w.forCall tape i) (by rfl) hw) (hX _ _ _ (by rfl) hx) hsh).mono fun e W' ⟨v,he,hp⟩=>?_
 subst he
 exact ChangeSpec.post_blind hp
end
def knames:List (List UInt8):=[[],[100,111,117,98,108,101],[102,108,111,97,116],[105,110,116,51,50],[105,110,116,54,52],[117,105,110,116,51,50],[117,105,110,116,54,52],[115,105,110,116,51,50],[115,105,110,116,54,52],[102,105,120,101,100,51,50],[102,105,120,101,100,54,52],[115,102,105,120,101,100,51,50],[115,102,105,120,101,100,54,52],[98,111,111,108],[115,116,114,105,110,103],[98,121,116,101,115],[101,110,117,109],[109,101,115,115,97,103,101]]
def kname(i:Nat):List UInt8:=knames.getD i []
def kwires:List Int:=[-1,1,5,0,0,0,0,0,0,5,1,5,1,0,2,2,0,2]
def kwire(i:Nat):Int:=kwires.getD i (-1)
def knumB(i:Nat):Bool:=decide ((1<=i/\i<=13)\/i=16)
def kkeyB(i:Nat):Bool:=decide (3<=i/\i<=14)
def kno(z:Int):Nat:=if 1<=z/\z<=17 then z.toNat else 0
theorem Q7h(i:Nat)(h1:1<=i)(h2:i<=17):kno (i:Int)=i:=by unfold kno;rw[if_pos (by omega)];omega
theorem Q5W(z:Int)(h:z<1):kno z=0:=by unfold kno;rw[if_neg (by omega)]
theorem Q4i(z:Int)(h:17<z):kno z=0:=by unfold kno;rw[if_neg (by omega)]
def EH(l:List UInt8):Nat->Nat
 | 0=>0
 | 1=>0
 | k+2=>if kname (k+1)=l then k+1 else EH l (k+1)
theorem JD(l:List UInt8)(k:Nat)(h:1<=k):EH l (k+1)=if kname k=l then k else EH l k:=by
 obtain⟨j,rfl⟩:∃ j,k=j+1:=⟨k-1,by omega⟩
 rfl
theorem ZA:∀ i:Fin 18,∀ j:Fin 18,i.val<j.val->kname i.val≠kname j.val:=by decide +kernel
theorem RQ(l:List UInt8):∀ k,(∀ j,1<=j->j<k->kname j≠l)->EH l k=0
 | 0,_=>rfl
 | 1,_=>rfl
 | k+2,h=>by
  rw[JD l (k+1) (by omega),if_neg (h (k+1) (by omega) (by omega)),RQ l (k+1) fun j h1 h2=>h j h1 (by omega)]
theorem YX(l:List UInt8)(i:Nat)(h1:1<=i)(he:kname i=l):∀ k,i<k->k<=18->EH l k=i
 | 0,h,_=>absurd h (by omega)
 | 1,h,_=>absurd h (by omega)
 | k+2,h,hk=>by
  rw[JD l (k+1) (by omega)]
  by_cases e:i=k+1
  ·rw[if_pos (e▸he),e]
  ·rw[if_neg,YX l i h1 he (k+1) (by omega) (by omega)]
   rw[<- he]
   exact(ZA ⟨i,by omega⟩ ⟨k+1,by omega⟩ (by show i<k+1;omega)).symm
theorem Z7(l:List UInt8):∀ k,EH l k<=k
 | 0=>Nat.le_refl _
 | 1=>Nat.zero_le _
 | k+2=>by
  rw[JD l (k+1) (by omega)]
  have:=Z7 l (k+1)
  split<;>omega
section
def Q0Q(tmps:Array Value):ResultVar->Sem Value
 | .tmp t=>pure (tmps.getD t undef)
 | .cell a t=>do loadVar t (<- asAddr (tmps.getD a undef))
def RV(tmps:Array Value)(w:World)(rv:ResultVar)(v:Value):Prop:=(Q0Q tmps rv).run Tryz.prog w=.ok v w
theorem WF{tmps:Array Value}{w:World}{p:Tmp}{ty:TypeId}(g:Nat)(cs:List Value)(t:TypeId)(fs:Array Field)(hp:tmps.getD p undef=.pointer (some ⟨g,0,none⟩))(hg:Blk w g t cs)
  (hu:Tryz.prog.underlying ty=some (.struct fs)) (hi:(Tryz.prog.info? ty).map (·.size)=some cs.toArray.size):RV tmps w (.cell p ty) (.agg cs.toArray):=by
 have hp':tmps[p]?.getD undef=.pointer (some ⟨g,0,none⟩):=by simpa using hp
 unfold RV Q0Q
 simp[hp',asAddr,run_loadVar_row w g t ty cs.toArray (0,0) (.struct fs) hg hu rfl hi]
theorem Q0y(fn:Func)(tmps:Array Value):results fn tmps=(do let vs <- fn.results.mapM (Q0Q tmps);pure (if h:vs.size=1 then vs[0]else .tuple vs)):=by
 unfold results
 congr 1
section
variable{fn:Func}{a b c d:ResultVar}{tmps:Array Value}{w:World}{x y z u:Value}
theorem results_1(h:fn.results = #[a])(ha:RV tmps w a x):(results fn tmps).run Tryz.prog w=.ok x w:=by
 unfold RV at ha
 rw[Q0y,h]
 simp[ha]
end
end
end Go.Proofs.YtgcphgdkddihcaaGreatDoor
