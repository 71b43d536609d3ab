/- Part 20. Conditions: as each theorem says. -/
import Derived.Test.YtecfdcdkkgmkpaaIT19
import Derived.Test.YtecfdcdkkgmkpaaProg
set_option maxRecDepth 100000
namespace Go.Proofs.Ytecfdcdkkgmkpaa
open Go.RowKit
section
open Go Go.RowKit
abbrev Stp:=(Int×Int×Vl)×Ed
def tdy:List Stp->List Stp->List Stp->List Stp
 | d,p,[]=>d++p
 | d,p,s::l=>if s.1.1=2 then tdy (d++[s]) p l else if s.1.1=3 then tdy d (p++[s]) l else d++p++s::tdy [] [] l
theorem IM{d p:List Stp}{s:Stp}{l:List Stp}(h:s.1.1=2):tdy d p (s::l)=tdy (d++[s]) p l:=by rw[tdy,if_pos h]
theorem K6{d p:List Stp}{s:Stp}{l:List Stp}(h:s.1.1=3):tdy d p (s::l)=tdy d (p++[s]) l:=by rw[tdy,if_neg (by omega),if_pos h]
theorem IK{d p:List Stp}{s:Stp}{l:List Stp}(h:s.1.1≠2)(h3:s.1.1≠3):tdy d p (s::l)=d++p++s::tdy [] [] l:=by rw[tdy,if_neg h,if_neg h3]
theorem IW{p X:List Stp}:∀ (q:List Stp) (d:List Stp),(∀ s∈q,s.1.1=2)->tdy d p (q++X)=tdy (d++q) p X
 | [],d,_=>by simp
 | s::q,d,h=>by
  rw[List.cons_append,IM (h s List.mem_cons_self),IW q _ fun x hx=>h x (List.mem_cons_of_mem _ hx)]
  simp
theorem L7{d X:List Stp}:∀ (q:List Stp) (p:List Stp),(∀ s∈q,s.1.1=3)->tdy d p (q++X)=tdy d (p++q) X
 | [],p,_=>by simp
 | s::q,p,h=>by
  rw[List.cons_append,K6 (h s List.mem_cons_self),L7 q _ fun x hx=>h x (List.mem_cons_of_mem _ hx)]
  simp
theorem FE:∀ (l d p:List Stp),(tdy d p l).Perm (d++p++l)
 | [],d,p=>by simp[tdy]
 | s::l,d,p=>by
  by_cases h2:s.1.1=2
  ·rw[IM h2]
   refine(FE l _ _).trans ?_
   rw[List.append_assoc,List.append_assoc,List.append_assoc]
   refine List.Perm.append_left d ?_
   exact(List.perm_middle (l₁:=p) (a:=s) (l₂:=l)).symm
  by_cases h3:s.1.1=3
  ·rw[K6 h3]
   refine(FE l _ _).trans ?_
   simp
  rw[IK h2 h3]
  exact List.Perm.append_left _ (List.Perm.cons s (by simpa using FE l [] []))
theorem S0{s:Stp}{l:List Stp}:s∈tdy [] [] l↔s∈l:=by simpa using(FE l [] []).mem_iff (a:=s)
def CA(k:Int):Int:=if k=2 then 3 else if k=3 then 2 else k
theorem Q4(k:Int):CA (CA k)=k:=by unfold CA;repeat' split;all_goals omega
theorem flipK_2(k:Int):CA k=2↔k=3:=by unfold CA;repeat' split;all_goals omega
theorem flipK_3(k:Int):CA k=3↔k=2:=by unfold CA;repeat' split;all_goals omega
theorem DA{k:Int}(h:k≠2)(h3:k≠3):CA k=k:=by unfold CA;rw[if_neg h,if_neg h3]
def WB(e:Ed)(a b c:List Ed):Ed:=.mk e.kind e.new e.old (List.zipWith (fun(p:Int×Ed) x=>(p.1,x)) e.fields a) e.rests e.rn e.ro (tdy [] [] (List.zipWith (fun(s:Stp) x=>((CA s.1.1,s.1.2.1,s.1.2.2),x)) e.steps b)) (List.zipWith (fun(p:Vl×Ed) x=>(p.1,x)) e.keys c)
def BB(e:Ed):Ed:=ecata WB e
def B3(s:Stp):Stp:=((CA s.1.1,s.1.2.1,s.1.2.2),BB s.2)
def EP(p:Int×Ed):Int×Ed:=(p.1,BB p.2)
def FJ(p:Vl×Ed):Vl×Ed:=(p.1,BB p.2)
def M6(l:List Stp):List Stp:=tdy [] [] (l.map B3)
theorem CC(e:Ed):BB e=.mk e.kind e.new e.old (e.fields.map EP) e.rests e.rn e.ro (M6 e.steps) (e.keys.map FJ):=by
 unfold BB
 rw[EM,WB,FT,FT,FT]
 rfl
theorem CR(e:Ed):(BB e).kind=e.kind:=by rw[CC];rfl
theorem G8(e:Ed):(BB e).old=e.new:=by rw[CC];rfl
theorem GJ(e:Ed):(BB e).new=e.old:=by rw[CC];rfl
theorem CH(e:Ed):(BB e).fields=e.fields.map EP:=by rw[CC];rfl
theorem FP(e:Ed):(BB e).rests=e.rests:=by rw[CC];rfl
theorem K1(e:Ed):(BB e).ro=e.rn:=by rw[CC];rfl
theorem K2(e:Ed):(BB e).rn=e.ro:=by rw[CC];rfl
theorem CX(e:Ed):(BB e).steps=M6 e.steps:=by rw[CC];rfl
theorem DE(e:Ed):(BB e).keys=e.keys.map FJ:=by rw[CC];rfl
theorem MQ:BB EJ=EJ:=by rw[CC];rfl
theorem E0{α:Type}{ok:α->Bool}{ah:α->α->Bool}:∀ {l:List α} {o:Option α},BE ok ah o l=true -> ∀ x∈l,ok x=true
 | [],_,_,_,h=>by cases h
 | x::l,none,h,y,hy=>by
  rw[BE,Bool.and_eq_true]at h
  rcases List.mem_cons.1 hy with rfl | hy
  ·exact h.1
  ·exact E0 h.2 y hy
 | x::l,some p,h,y,hy=>by
  rw[BE,Bool.and_eq_true,Bool.and_eq_true]at h
  rcases List.mem_cons.1 hy with rfl | hy
  ·exact h.1.1
  ·exact E0 h.2 y hy
theorem DG{α:Type}{ok:α->Bool}{ah:α->α->Bool}{x:α}{l:List α}{o:Option α}:BE ok ah o (x::l)=true↔ok x=true/\(∀ p,o=some p->ah p x=true)/\BE ok ah (some x) l=true:=by
 cases o with
 | none=>simp[BE]
 | some p=>simp[BE,and_assoc]
theorem IB{α:Type}{ok ok':α->Bool}{ah ah':α->α->Bool}:∀ {l:List α} {o:Option α},(∀ x∈l,ok x=true->ok' x=true)->(∀ p x,ah p x=true->ah' p x=true)->BE ok ah o l=true->BE ok' ah' o l=true
 | [],_,_,_,_=>by simp[BE]
 | x::l,o,h1,h2,h=>by
  rw[DG]at h ⊢
  exact⟨h1 x List.mem_cons_self h.1,fun p hp=>h2 p x (h.2.1 p hp),IB (fun y hy=>h1 y (List.mem_cons_of_mem _ hy)) h2 h.2.2⟩
theorem DH{v:Vl}(h:DZ v=true):v=DR:=by
 unfold DZ at h
 rw[Bool.and_eq_true,decide_eq_true_eq]at h
 obtain⟨h0,h⟩:=h
 rw[MI]at h
 simp only[Bool.and_eq_true]at h
 obtain⟨_,_,h1,h2,h3,h4,h5⟩:=(KC v).1 h.1.1.1
 rw[v.eta]
 have e4:v.list=[]:=Classical.byContradiction fun hn=>by have:=h4.2 hn;omega
 have e5:v.pairs=[]:=Classical.byContradiction fun hn=>by have:=h5.2 hn;omega
 rw[h0,h1 (by omega),h2 (by omega),(h3 (by omega)).1,(h3 (by omega)).2,e4,e5]
 rfl
theorem FI{e:Ed}(h:B5 e=true):E3 e=true:=by
 rw[DF,Bool.and_eq_true]at h
 exact h.1
theorem HI{e:Ed}(h:B5 e=true)(h0:e.kind=0):e=EJ:=by
 obtain⟨h1,h2,h3,h4⟩:=(GQ e).1 (FI h)
 have h1:=h1.resolve_left (by omega)
 have h2:=h2.resolve_left (by omega)
 have h3:=h3.resolve_left (by omega)
 have h4:=h4.resolve_left (by omega)
 simp only[List.length_eq_zero_iff]at h2 h3 h4
 rw[e.eta,h0,DH h1.1,DH h1.2,h2.1,h2.2.1,h2.2.2.1,h2.2.2.2,h3,h4]
 rfl
theorem FU{e:Ed}(h:B5 e=true):BE HG EZ none e.fields=true/\BE C6 C3 none e.steps=true/\BE R8 JS none e.keys=true:=by
 obtain⟨_,h2,h3,h4⟩:=(GQ e).1 (FI h)
 simp only[List.length_eq_zero_iff]at h2 h3 h4
 rw[DF,Bool.and_eq_true]at h
 have h:=h.2
 refine⟨?_,?_,?_⟩
 ·rcases h2 with h2 | h2
  ·rw[if_neg (by omega),if_neg (by omega),if_pos h2,Bool.and_eq_true]at h
   exact h.2
  ·rw[h2.1];rfl
 ·rcases h3 with h3 | h3
  ·rw[if_neg (by omega),if_neg (by omega),if_neg (by omega),if_pos h3,Bool.and_eq_true]at h
   exact h.2
  ·rw[h3];rfl
 ·rcases h4 with h4 | h4
  ·rw[if_neg (by omega),if_neg (by omega),if_neg (by omega),if_neg (by omega),if_pos h4,Bool.and_eq_true]at h
   exact h.2
  ·rw[h4];rfl
theorem DS{s:Stp}(h:C6 s=true):B5 s.2=true/\((s.1.1=1/\1<=s.1.2.1/\s.1.2.1<=1048576/\s.1.2.2=DR/\s.2=EJ)\/((s.1.1=2\/s.1.1=3)/\s.1.2.1=0/\KE s.1.2.2=true/\s.2=EJ)\/(s.1.1=4/\s.1.2.1=0/\s.1.2.2=DR/\s.2.kind≠0)):=by
 unfold C6 HO at h
 split at h
 ·rename_i k
  simp only[Bool.and_eq_true,decide_eq_true_eq]at h
  exact⟨h.2.2,.inl ⟨k,h.1.1.1,h.1.1.2,DH h.1.2,HI h.2.2 h.2.1⟩⟩
 split at h
 ·rename_i k
  simp only[Bool.and_eq_true,decide_eq_true_eq]at h
  exact⟨h.2.2,.inr (.inl ⟨k,h.1.1,h.1.2,HI h.2.2 h.2.1⟩)⟩
 split at h
 ·rename_i k
  simp only[Bool.and_eq_true,Bool.not_eq_true',decide_eq_false_iff_not,decide_eq_true_eq]at h
  exact⟨h.2.2,.inr (.inr ⟨k,h.1.1,DH h.1.2,h.2.1⟩)⟩
 ·cases h
theorem FO{e:Ed}(h:B5 e=true):∀ x∈e.kids,B5 x=true:=by
 obtain⟨h1,h2,h3⟩:=FU h
 intro x hx
 rcases List.mem_append.1 hx with hx | hx
 ·obtain⟨p,hp,rfl⟩:=List.mem_map.1 hx
  have:=E0 h1 p hp
  simp only[HG,H4,Bool.and_eq_true]at this
  exact this.2.2
 rcases List.mem_append.1 hx with hx | hx
 ·obtain⟨p,hp,rfl⟩:=List.mem_map.1 hx
  exact(DS (E0 h2 p hp)).1
 ·obtain⟨p,hp,rfl⟩:=List.mem_map.1 hx
  have:=E0 h3 p hp
  simp only[R8,MU,Bool.and_eq_true]at this
  exact this.2.2
theorem L8{α:Type}{f:α->α}{l:List α}(h:∀ x∈l,f (f x)=x):(l.map f).map f=l:=by
 rw[List.map_map]
 exact(List.map_congr_left (g:=id) fun x hx=>h x hx).trans (List.map_id _)
theorem C4(s:Stp):(B3 s).1.1=CA s.1.1:=rfl
theorem SC{ok:Stp->Bool}:∀ (l:List Stp) (d p:List Stp) (o:Option Stp),(∀ s∈l,B3 (B3 s)=s)->(∀ s∈d,s.1.1=2/\B3 (B3 s)=s)->(∀ s∈p,s.1.1=3/\B3 (B3 s)=s)->(p≠[] -> ∃ x,o=some x/\x.1.1=3)->BE ok C3 o l=true ->
  tdy [] [] ((tdy (p.map B3) (d.map B3) (l.map B3)).map B3)=d++p++l:=by
 intro l
 have back:∀ (q:List Stp),(∀ s∈q,B3 (B3 s)=s)->(q.map B3).map B3=q:=fun q hq=>L8 hq
 induction l with
 | nil=>
  intro d p o _ hd hp _ _
  rw[List.map_nil,tdy,List.map_append,back p fun s hs=>(hp s hs).2,back d fun s hs=>(hd s hs).2]
  rw[L7 p [] fun s hs=>(hp s hs).1]
  have:=IW (p:=[]++p) (X:=[]) d [] fun s hs=>(hd s hs).1
  rw[List.append_nil]at this
  rw[this,tdy]
  simp
 | cons s l ih=>
  intro d p o hl hd hp hpo hr
  rw[DG]at hr
  obtain⟨_,ha,hr⟩:=hr
  have hs:=hl s List.mem_cons_self
  have hl':∀ x∈l,B3 (B3 x)=x:=fun x hx=>hl x (List.mem_cons_of_mem _ hx)
  have one:∀ {q:List Stp} {k:Int},(∀ s∈q,s.1.1=k/\B3 (B3 s)=s)->s.1.1=k -> ∀ x∈q++[s],x.1.1=k/\B3 (B3 x)=x:=fun hq hk x hx=>by
   rcases List.mem_append.1 hx with h | h
   ·exact hq x h
   ·rw[List.mem_singleton.1 h];exact⟨hk,hs⟩
  rw[List.map_cons]
  by_cases h2:s.1.1=2
  ·have hp0:p=[]:=Classical.byContradiction fun hn=>by
    obtain⟨x,hx,hx3⟩:=hpo hn
    have:=ha x hx
    rw[C3,if_neg (by omega),if_pos hx3,h2]at this
    cases this
   subst hp0
   rw[K6 (by rw[C4,h2];rfl)]
   have:=ih (d++[s]) [] (some s) hl' (one hd h2) hp (fun h=>absurd rfl h) hr
   rw[List.map_append]at this
   rw[List.map_cons,List.map_nil]at this
   rw[List.map_nil,this]
   simp
  by_cases h3:s.1.1=3
  ·rw[IM (by rw[C4,h3];rfl)]
   have:=ih d (p++[s]) (some s) hl' hd (one hp h3) (fun _=>⟨s,rfl,h3⟩) hr
   rw[List.map_append]at this
   rw[List.map_cons,List.map_nil]at this
   rw[this]
   simp
  ·rw[IK (by rw[C4,DA h2 h3];exact h2) (by rw[C4,DA h2 h3];exact h3),List.map_append,List.map_append,List.map_cons,back p fun s hs=>(hp s hs).2,back d fun s hs=>(hd s hs).2,hs]
   rw[List.append_assoc,L7 p [] fun s hs=>(hp s hs).1,IW d [] fun s hs=>(hd s hs).1,IK h2 h3]
   have:=ih [] [] (some s) hl' (fun _ h=>by cases h) (fun _ h=>by cases h) (fun h=>absurd rfl h) hr
   rw[List.map_nil]at this
   rw[this]
   simp
theorem S9(e:Ed):B5 e=true->BB (BB e)=e:=by
 refine Ed.kids_ind (P:=fun e=>B5 e=true->BB (BB e)=e) (fun e ih h=>?_) e
 have hk:=FO h
 have ih':∀ x∈e.kids,BB (BB x)=x:=fun x hx=>ih x hx (hk x hx)
 rw[CC (BB e),CR,G8,GJ,CH,FP,K1,K2,CX,DE]
 have a:(e.fields.map EP).map EP=e.fields:=L8 fun p hp=>by
  show(p.1,BB (BB p.2))=p
  rw[ih' _ (Ed.kid_f hp)]
 have c:(e.keys.map FJ).map FJ=e.keys:=L8 fun p hp=>by
  show(p.1,BB (BB p.2))=p
  rw[ih' _ (Ed.kid_k hp)]
 have b:M6 (M6 e.steps)=e.steps:=by
  have:=SC e.steps [] [] none (fun s hs=>by
   show((CA (CA s.1.1),s.1.2.1,s.1.2.2),BB (BB s.2))=s
   rw[Q4,ih' _ (Ed.kid_s hs)]) (fun _ h=>by cases h) (fun _ h=>by cases h) (fun h=>absurd rfl h) (FU h).2.1
  exact this
 rw[a,b,c]
 exact e.eta.symm
theorem KP{X:List Stp}:∀ (q:List Stp) (o:Option Stp),(∀ s∈q,s.1.1=2/\C6 s=true)->(∀ x,o=some x->x.1.1≠3)->(∀ o',(q=[]->o'=o)->(q≠[] -> ∃ x,o'=some x/\x.1.1=2)->BE C6 C3 o' X=true)->BE C6 C3 o (q++X)=true
 | [],o,_,_,h=>h o (fun _=>rfl) fun h=>absurd rfl h
 | s::q,o,hq,ho,h=>by
  obtain⟨h2,hs⟩:=hq s List.mem_cons_self
  rw[List.cons_append,DG]
  refine⟨hs,fun x hx=>?_,KP q (some s) (fun x hx=>hq x (List.mem_cons_of_mem _ hx)) (fun x hx=>by cases hx;omega) fun o' h1 h3=>h o' (fun h=>by cases h) fun _=>?_⟩
  ·have:=ho x hx
   unfold C3
   split
   ·rw[h2];rfl
   ·rfl
  ·by_cases hn:q=[]
   ·exact⟨s,h1 hn,h2⟩
   ·exact h3 hn
theorem NZ{X:List Stp}:∀ (q:List Stp) (o:Option Stp),(∀ s∈q,s.1.1=3/\C6 s=true)->(∀ o',(q=[]->o'=o)->(q≠[] -> ∃ x,o'=some x/\x.1.1=3)->BE C6 C3 o' X=true)->BE C6 C3 o (q++X)=true
 | [],o,_,h=>h o (fun _=>rfl) fun h=>absurd rfl h
 | s::q,o,hq,h=>by
  obtain⟨h2,hs⟩:=hq s List.mem_cons_self
  rw[List.cons_append,DG]
  refine⟨hs,fun x hx=>?_,NZ q (some s) (fun x hx=>hq x (List.mem_cons_of_mem _ hx)) fun o' h1 h3=>h o' (fun h=>by cases h) fun _=>?_⟩
  ·unfold C3
   rw[h2]
   split
   ·rfl
   split
   ·rfl
   ·rfl
  ·by_cases hn:q=[]
   ·exact⟨s,h1 hn,h2⟩
   ·exact h3 hn
theorem QE{ok:Stp->Bool}:∀ (l:List Stp) (d p:List Stp) (o o':Option Stp),(∀ s∈l,C6 (B3 s)=true)->(∀ s∈d,s.1.1=3/\C6 s=true)->(∀ s∈p,s.1.1=2/\C6 s=true)->(d=[]->p=[] -> ∀ x',o'=some x' -> ∃ x,o=some x/\x.1.1=x'.1.1)->(∀ x',o'=some x'->x'.1.1≠3)->BE ok C3 o l=true ->
  BE C6 C3 o' (tdy p d (l.map B3))=true:=by
 intro l
 induction l with
 | nil=>
  intro d p o o' _ hd hp _ ho _
  rw[List.map_nil,tdy]
  have:=KP (X:=d) p o' hp ho fun o2 _ _=>by
   have:=NZ (X:=[]) d o2 hd fun _ _ _=>by simp[BE]
   rwa [List.append_nil]at this
  exact this
 | cons s l ih=>
  intro d p o o' hl hd hp hq ho hr
  rw[DG]at hr
  obtain⟨_,ha,hr⟩:=hr
  have hs:=hl s List.mem_cons_self
  have hl':∀ x∈l,C6 (B3 x)=true:=fun x hx=>hl x (List.mem_cons_of_mem _ hx)
  have one:∀ {q:List Stp} {k:Int},(∀ s∈q,s.1.1=k/\C6 s=true)->(B3 s).1.1=k -> ∀ x∈q++[B3 s],x.1.1=k/\C6 x=true:=fun hq hk x hx=>by
   rcases List.mem_append.1 hx with h | h
   ·exact hq x h
   ·rw[List.mem_singleton.1 h];exact⟨hk,hs⟩
  have ne:∀ {q:List Stp},q++[B3 s]=[]->False:=fun h=>by simp at h
  rw[List.map_cons]
  by_cases h2:s.1.1=2
  ·have k:(B3 s).1.1=3:=by rw[C4,h2];rfl
   rw[K6 k]
   exact ih (d++[B3 s]) p (some s) o' hl' (one hd k) hp (fun h=>(ne h).elim) ho hr
  by_cases h3:s.1.1=3
  ·have k:(B3 s).1.1=2:=by rw[C4,h3];rfl
   rw[IM k]
   exact ih d (p++[B3 s]) (some s) o' hl' hd (one hp k) (fun _ h=>(ne h).elim) ho hr
  have k:(B3 s).1.1=s.1.1:=by rw[C4,DA h2 h3]
  rw[IK (by omega) (by omega),List.append_assoc]
  refine KP p o' hp ho fun o2 a1 a2=>NZ d o2 hd fun o3 b1 b2=>?_
  rw[DG]
  refine⟨hs,fun x hx=>?_,ih [] [] (some s) (some (B3 s)) hl' (fun _ h=>by cases h) (fun _ h=>by cases h) (fun _ _ x' h=>by cases h;exact⟨s,rfl,k.symm⟩) (fun x' h=>by cases h;omega) hr⟩
  by_cases hd0:d=[]
  ·have e3:=b1 hd0
   by_cases hp0:p=[]
   ·have e2:=a1 hp0
    rw[e3,e2]at hx
    obtain⟨y,hy,hk⟩:=hq hd0 hp0 x hx
    have:=ha y hy
    unfold C3 at this ⊢
    rw[k,<- hk]
    exact this
   ·obtain⟨y,hy,hk⟩:=a2 hp0
    rw[e3,hy]at hx
    cases hx
    rw[C3,if_neg (by omega),if_neg (by omega)]
  ·obtain⟨y,hy,hk⟩:=b2 hd0
   rw[hy]at hx
   cases hx
   rw[C3,if_neg (by omega),if_pos hk,k,decide_eq_false h2]
   rfl
theorem KY{s:Stp}(h:C6 s=true)(ih:B5 (BB s.2)=true):C6 (B3 s)=true:=by
 obtain⟨_,h⟩:=DS h
 unfold C6 HO
 rw[C4]
 show(if CA s.1.1=1 then decide (1<=s.1.2.1)&&decide (s.1.2.1<=1048576)&&DZ s.1.2.2&&(decide ((BB s.2).kind=0)&&B5 (BB s.2))
  else if CA s.1.1=2\/CA s.1.1=3 then decide (s.1.2.1=0)&&KE s.1.2.2&&(decide ((BB s.2).kind=0)&&B5 (BB s.2))
  else if CA s.1.1=4 then decide (s.1.2.1=0)&&DZ s.1.2.2&&(!decide ((BB s.2).kind=0)&&B5 (BB s.2))
  else false)=true
 rw[ih,CR]
 rcases h with⟨k,a,b,c,d⟩ | ⟨k,a,b,c⟩ | ⟨k,a,b,c⟩
 ·rw[DA (by omega) (by omega),if_pos k,decide_eq_true a,decide_eq_true b,c,E2,d]
  rfl
 ·have k':CA s.1.1=2\/CA s.1.1=3:=by rw[flipK_2,flipK_3];omega
  rw[if_neg (by omega),if_pos k',decide_eq_true a,b,c]
  rfl
 ·rw[DA (by omega) (by omega),if_neg (by omega),if_neg (by omega),if_pos k,decide_eq_true a,b,E2,decide_eq_false c]
  rfl
theorem QH(a b:Vl):DN a b=DN b a:=by
 unfold DN
 rw[P8 a b]
 exact decide_eq_decide.2 (by omega)
theorem HP(e:Ed):B5 e=true->B5 (BB e)=true:=by
 refine Ed.kids_ind (P:=fun e=>B5 e=true->B5 (BB e)=true) (fun e ih h=>?_) e
 have hk:=FO h
 have ih':∀ x∈e.kids,B5 (BB x)=true:=fun x hx=>ih x hx (hk x hx)
 obtain⟨r1,r2,r3⟩:=FU h
 have hb:=FI h
 rw[DF,hb,Bool.true_and]at h
 have b:E3 (BB e)=true:=by
  rw[GQ]at hb ⊢
  rw[CR,G8,GJ,CH,FP,K1,K2,CX,DE,List.length_map,List.length_map]
  refine⟨hb.1.imp id fun h=>⟨h.2,h.1⟩,hb.2.1.imp id fun h=>⟨h.1,h.2.1,h.2.2.2,h.2.2.1⟩,hb.2.2.1.imp id fun h=>?_,hb.2.2.2⟩
  rw[List.length_eq_zero_iff]at h
  rw[h]
  rfl
 rw[DF,b,Bool.true_and,CR,G8,GJ,CH,FP,CX,DE]
 by_cases k0:e.kind=0
 ·rw[if_pos k0]
 rw[if_neg k0]at h ⊢
 by_cases k1:e.kind=1
 ·rw[if_pos k1]at h ⊢
  rw[QH]
  simp only[Bool.and_eq_true]at h ⊢
  exact⟨⟨h.1.2,h.1.1⟩,h.2⟩
 rw[if_neg k1]at h ⊢
 by_cases k2:e.kind=2
 ·rw[if_pos k2]at h ⊢
  simp only[Bool.and_eq_true]at h ⊢
  refine⟨⟨?_,?_⟩,?_⟩
  ·have:=h.1.1
   unfold LR at this ⊢
   rw[FP,K1,K2]
   split
   ·rename_i c
    rw[if_pos c]at this
    rw[decide_eq_decide.2 (show(e.rn=e.ro↔e.ro=e.rn) from⟨Eq.symm,Eq.symm⟩)]
    exact this
   ·rename_i c
    rw[if_neg c]at this
    rw[Bool.and_comm]
    exact this
  ·have:=h.1.2
   rwa [List.isEmpty_map]
  ·have:=E4 EP HG EZ none e.fields
   rw[Option.map_none]at this
   rw[this]
   refine IB (fun p hp hx=>?_) (fun _ _ h=>h) r1
   simp only[HG,H4,Bool.and_eq_true]at hx ⊢
   refine⟨hx.1,?_,ih' _ (Ed.kid_f hp)⟩
   show(!decide ((BB p.2).kind=0))=true
   rw[CR]
   exact hx.2.1
 rw[if_neg k2]at h ⊢
 by_cases k3:e.kind=3
 ·rw[if_pos k3]at h ⊢
  simp only[Bool.and_eq_true]at h ⊢
  refine⟨?_,QE e.steps [] [] none none (fun s hs=>KY (E0 r2 s hs) (ih' _ (Ed.kid_s hs))) (fun _ h=>by cases h) (fun _ h=>by cases h) (fun _ _ _ h=>by cases h) (fun _ h=>by cases h) r2⟩
  obtain⟨s,hs,hc⟩:=List.any_eq_true.1 h.1
  refine List.any_eq_true.2 ⟨B3 s,S0.2 (List.mem_map.2 ⟨s,hs,rfl⟩),?_⟩
  unfold J2 at hc ⊢
  simp only[Bool.not_eq_true',decide_eq_false_iff_not]at hc ⊢
  rw[C4]
  unfold CA
  repeat' split
  all_goals omega
 rw[if_neg k3]at h ⊢
 by_cases k4:e.kind=4
 ·rw[if_pos k4]at h ⊢
  simp only[Bool.and_eq_true]at h ⊢
  refine⟨?_,?_⟩
  ·have:=h.1
   rwa [List.isEmpty_map]
  ·have:=E4 FJ R8 JS none e.keys
   rw[Option.map_none]at this
   rw[this]
   refine IB (fun p hp hx=>?_) (fun _ _ h=>h) r3
   simp only[R8,MU,Bool.and_eq_true]at hx ⊢
   refine⟨hx.1,?_,ih' _ (Ed.kid_k hp)⟩
   show(!decide ((BB p.2).kind=0))=true
   rw[CR]
   exact hx.2.1
 rw[if_neg k4]at h
 cases h
theorem U9{l m:List Nat}(h:l.Perm m):l.sum=m.sum:=by
 induction h with
 | nil=>rfl
 | cons x _ ih=>simp[ih]
 | swap x y l=>simp only[List.sum_cons];omega
 | trans _ _ a b=>exact a.trans b
theorem PX(l:List Stp)(f:Stp->Nat):((M6 l).map f).sum=(l.map fun s=>f (B3 s)).sum:=by
 have:=U9 ((FE (l.map B3) [] []).map f)
 rw[List.nil_append,List.nil_append,List.map_map]at this
 exact this
theorem QM(e:Ed):BU (BB e)=BU e:=by
 refine Ed.kids_ind (P:=fun e=>BU (BB e)=BU e) (fun e ih=>?_) e
 rw[I4,I4 e,CR,G8,GJ,CH,CX,DE,PX,List.map_map,List.map_map]
 rw[List.map_congr_left (f:=(fun p:Int×Ed=>BU p.2) ∘ EP) (g:=fun p=>BU p.2) fun p hp=>ih _ (Ed.kid_f hp)]
 rw[List.map_congr_left (f:=fun s:Stp=>1+vsize (B3 s).1.2.2+BU (B3 s).2) (g:=fun s=>1+vsize s.1.2.2+BU s.2) fun s hs=>by
  show 1+vsize s.1.2.2+BU (BB s.2)=_
  rw[ih _ (Ed.kid_s hs)]]
 rw[List.map_congr_left (f:=(fun s:Vl×Ed=>vsize s.1+BU s.2) ∘ FJ) (g:=fun s=>vsize s.1+BU s.2) fun s hs=>by
  show vsize s.1+BU (BB s.2)=_
  rw[ih _ (Ed.kid_k hs)]]
 split
 ·rfl
 ·rw[Nat.add_right_comm 1 (vsize e.new) (vsize e.old)]
theorem OX(e:Ed):ecount (BB e)=ecount e:=by
 refine Ed.kids_ind (P:=fun e=>ecount (BB e)=ecount e) (fun e ih=>?_) e
 rw[DB,DB e,CH,CX,DE,PX,List.map_map,List.map_map]
 rw[List.map_congr_left (f:=(fun p:Int×Ed=>ecount p.2) ∘ EP) (g:=fun p=>ecount p.2) fun p hp=>ih _ (Ed.kid_f hp)]
 rw[List.map_congr_left (f:=fun s:Stp=>ecount (B3 s).2) (g:=fun s=>ecount s.2) fun s hs=>ih _ (Ed.kid_s hs)]
 rw[List.map_congr_left (f:=(fun s:Vl×Ed=>ecount s.2) ∘ FJ) (g:=fun s=>ecount s.2) fun s hs=>ih _ (Ed.kid_k hs)]
theorem SM{l m:List Nat}(h:l.Perm m):DI l=DI m:=by
 have one:∀ (x:Nat) (l:List Nat),DI (x::l)=max x (DI l):=fun x l=>by
  unfold DI
  rw[List.foldl_cons,FV]
  omega
 induction h with
 | nil=>rfl
 | cons x _ ih=>rw[one,one,ih]
 | swap x y l=>rw[one,one,one,one];omega
 | trans _ _ a b=>exact a.trans b
theorem O8(e:Ed):BN (BB e)=BN e:=by
 refine Ed.kids_ind (P:=fun e=>BN (BB e)=BN e) (fun e ih=>?_) e
 have hs:=SM ((FE (e.steps.map B3) [] []).map fun p=>BN p.2)
 rw[List.nil_append,List.nil_append,List.map_map]at hs
 rw[HJ,HJ e,CR,CH,CX,DE,List.map_map,List.map_map,M6,hs]
 rw[List.map_congr_left (f:=(fun p:Int×Ed=>BN p.2) ∘ EP) (g:=fun p=>BN p.2) fun p hp=>ih _ (Ed.kid_f hp)]
 rw[List.map_congr_left (f:=(fun p:Stp=>BN p.2) ∘ B3) (g:=fun s=>BN s.2) fun s hs=>ih _ (Ed.kid_s hs)]
 rw[List.map_congr_left (f:=(fun s:Vl×Ed=>BN s.2) ∘ FJ) (g:=fun s=>BN s.2) fun s hs=>ih _ (Ed.kid_k hs)]
theorem OZ{x:Stp}{l:List Stp}(h:x∈M6 l):∃ s∈l,x=B3 s:=by
 obtain⟨s,hs,rfl⟩:=List.mem_map.1 (S0.1 h)
 exact⟨s,hs,rfl⟩
theorem SN{e x:Ed}(h:x∈(BB e).kids):∃ y∈e.kids,x=BB y:=by
 unfold Ed.kids at h
 rw[CH,CX,DE]at h
 rcases List.mem_append.1 h with h | h
 ·obtain⟨p,hp,rfl⟩:=List.mem_map.1 h
  obtain⟨q,hq,rfl⟩:=List.mem_map.1 hp
  exact⟨q.2,Ed.kid_f hq,rfl⟩
 rcases List.mem_append.1 h with h | h
 ·obtain⟨p,hp,rfl⟩:=List.mem_map.1 h
  obtain⟨q,hq,rfl⟩:=OZ hp
  exact⟨q.2,Ed.kid_s hq,rfl⟩
 ·obtain⟨p,hp,rfl⟩:=List.mem_map.1 h
  obtain⟨q,hq,rfl⟩:=List.mem_map.1 hp
  exact⟨q.2,Ed.kid_k hq,rfl⟩
theorem TS{k:Int}(h:I64 k):I64 (CA k):=by
 unfold I64 at *
 unfold CA
 repeat' split
 all_goals omega
theorem VQ(e:Ed):e.Ok->(BB e).Ok:=by
 refine Ed.kids_ind (P:=fun e=>e.Ok->(BB e).Ok) (fun e ih h=>?_) e
 obtain⟨h1,h2,h3,h4,h5,h6,h7,h8⟩:=h.all
 refine .mk _ (by rw[CR];exact h1) (by rw[G8];exact h3) (by rw[GJ];exact h2) (by rw[K1];exact h5) (by rw[K2];exact h4) (fun p hp=>?_) (fun p hp=>?_) (fun p hp=>?_) fun x hx=>?_
 ·rw[CH]at hp
  obtain⟨q,hq,rfl⟩:=List.mem_map.1 hp
  exact h6 q hq
 ·rw[CX]at hp
  obtain⟨q,hq,rfl⟩:=OZ hp
  obtain⟨a,b,c,d⟩:=h7 q hq
  exact⟨TS a,b,c,d⟩
 ·rw[DE]at hp
  obtain⟨q,hq,rfl⟩:=List.mem_map.1 hp
  exact h8 q hq
 ·obtain⟨y,hy,rfl⟩:=SN hx
  exact ih y hy (h.kid hy)
theorem VM{e:Ed}(h:e.Sm):(BB e).Sm:=⟨VQ e h.ok,by rw[OX];exact h.count⟩
end
section
section
variable{P:Program}{cx:Cx}{T:TL}{B:BL}{R:RL}{M:Nat->Nat}{V:Nat->Value}{o:Oper}{ops:Array Oper}{Q:Exit->Act->World->Prop}{l:List Oper}
def WC(f:Value->Value->Prop):Prop:=∀ u v,f u v -> ∃ p,v=.pointer (some p)
theorem BV(j:Nat):WC (AtV j):=fun _ _ ⟨_,_,_,_,h⟩=>⟨_,h⟩
theorem OM(j:Nat)(v0:Value):WC (fun a u=>AtV j a u/\a=v0):=fun _ _ ⟨h,_⟩=>BV j _ _ h
theorem BA{x:Operand}{r:Nat}{f:Value->Value->Prop}(hf:WC f)(ho:o.op=.nilCheck x)(hx:Kn T x (.via r f)):LStep P cx B R o T (.via r f):=LStep.same fun M V w a _ hk=>by
 have h1:f (V r) (a.eval x):=hk x _ (by grind[Op.operands]) hx
 obtain⟨p,hp⟩:=hf _ _ h1
 rw[hp]at h1
 exact⟨_,by simp_all[execOp],h1⟩
theorem PS{K:Act->World->Prop}(s:Nat){t r j:Nat}{v0:Value}(ht:lk t T=some (atP r v0 j))(h:E cx ((t,.via r (AtV j))::(s,EU r v0)::T) B R K):E cx T B R K:=fun M V a w hr=>h M V a w ⟨hr.size,hr.defers,hr.heap,fun q z hz=>by
 have h1:AtV j (V r) (a.tmps.getD t undef)/\V r=v0:=hr.tmp t _ ht
 rcases AJ hz with⟨rfl,rfl⟩ | ⟨_,hz⟩
 ·exact h1.1
 rcases AJ hz with⟨rfl,rfl⟩ | ⟨_,hz⟩
 ·exact h1.2
 ·exact hr.tmp q z hz⟩
theorem UZ{K:Act->World->Prop}{t s r j:Nat}{v0:Value}(ht:lk t T=some (.via r (AtV j)))(hs:lk s T=some (EU r v0))(h:E cx ((t,atP r v0 j)::T) B R K):E cx T B R K:=fun M V a w hr=>h M V a w ⟨hr.size,hr.defers,hr.heap,fun q z hz=>by
 rcases AJ hz with⟨rfl,rfl⟩ | ⟨_,hz⟩
 ·exact⟨hr.tmp t _ ht,hr.tmp s _ hs⟩
 ·exact hr.tmp q z hz⟩
theorem V3{K:Act->World->Prop}{t s r j g n c:Nat}(ht:lk t T=some (.is (.pointer (some ⟨g,j,none⟩))))(hs:lk s T=some (EU r (.slice (some ⟨g,0,none⟩) n c)))(h:E cx ((t,.via r (AtV j))::T) B R K):E cx T B R K:=fun M V a w hr=>h M V a w ⟨hr.size,hr.defers,hr.heap,fun q z hz=>by
 rcases AJ hz with⟨rfl,rfl⟩ | ⟨_,hz⟩
 ·have h1:a.tmps.getD t undef=.pointer (some ⟨g,j,none⟩):=Lies.cell_eq (hr.tmp t _ ht)
  have h2:V r=.slice (some ⟨g,0,none⟩) n c:=hr.tmp s _ hs
  exact⟨g,n,c,h2,h1⟩
 ·exact hr.tmp q z hz⟩
theorem HT{pre l:List Dat}{i:Nat}{d:Dat}(h:l[i]?=some d):(pre++l)[pre.length+i]?=some d:=by
 rw[List.getElem?_append_right (by omega),Nat.add_sub_cancel_left]
 exact h
theorem N7{pre l post:List Dat}{i m:Nat}(h:Nat.ble (i+m) l.length=true):pre.length+i+m<=(pre++(l++post)).length:=by
 have:=Nat.le_of_ble_eq_true h
 simp only[List.length_append]
 omega
theorem PE{pre l post:List Dat}{i m:Nat}(h:Nat.ble (i+m) l.length=true):((pre++(l++post)).drop (pre.length+i)).take m=(l.drop i).take m:=by
 have:=Nat.le_of_ble_eq_true h
 rw[List.drop_length_add_append,List.drop_append_of_le_length (by omega),List.take_append_of_le_length (by rw[List.length_drop];omega)]
theorem RZ{pre l post es:List Dat}{i:Nat}(h:Nat.ble (i+es.length) l.length=true):(pre++(l++post)).take (pre.length+i)++es++(pre++(l++post)).drop (pre.length+i+es.length)=pre++((l.take i++(es++l.drop (i+es.length)))++post):=by
 have:=Nat.le_of_ble_eq_true h
 rw[Nat.add_assoc,List.take_length_add_append,List.drop_length_add_append,List.take_append_of_le_length (by omega),List.drop_append_of_le_length (by omega)]
 simp only[List.append_assoc]
theorem FW{pre l post:List Dat}{i:Nat}{d:Dat}(h:Nat.blt i l.length=true):(pre++(l++post)).set (pre.length+i) d=pre++(l.set i d++post):=by
 have:=CT h
 rw[List.set_append_right _ _ (by omega),Nat.add_sub_cancel_left,List.set_append_left _ _ this]
theorem HZ{pre l post:List Dat}{i:Nat}(h:Nat.blt i l.length=true):pre.length+i<(pre++(l++post)).length:=by
 have:=CT h
 simp only[List.length_append]
 omega
theorem I1{x y:Operand}{st:TypeId}{r ty k n j:Nat}{ds ds' es:List Dat}(hg:o.guard=none)(hd:o.dst=none)(ho:o.op=.store st x y)(hx:Kn T x (.via r (AtV j)))(hr:lk r R=some ⟨ty,k,n,ds,false⟩)(hy:Kn T y (.part (.many es)))(h1:es.all Dat.isOne=true)(hj:j+es.length<=ds.length)(hs:sizeT P st=some es.length)(hag:aggT P st=true)(hpos:0<es.length)(hds:ds.take j++es++ds.drop (j+es.length)=ds')
  (hE:E cx T B ((r,⟨ty,k,n,ds',false⟩)::R) (wpList P ops Q l)) (hty:Nat.blt ty 1000000=true:=by rfl):E cx T B R (wpList P ops Q (o::l)):=fun M V a w hrel=>by
 subst hds
 obtain⟨g,n',c,hVr,hxv⟩:AtV j (V r) (a.eval x):=hx w (Dc cx B R M V w) M V a fun t z _ hz=>hrel.tmp t z hz
 obtain⟨us,hyv,hyf⟩:=hy w (Dc cx B R M V w) M V a fun t z _ hz=>hrel.tmp t z hz
 have hone:=hyf.one h1
 obtain⟨w',hst,hrel'⟩:=HR.own_store (P:=P) hrel hr hVr (es:=es) (us:=us) (j:=j) hj hpos hyf hone hty
 refine wpList_plain hg fun K hK=>?_
 have:=hK _ _ (hE M V _ _ hrel')
 have hsz:=D3 hs (w:=w)
 have hul:us.length=es.length:=hyf.1.symm
 have hne:(us.toArray.size==0)=false:=by
  rw[List.size_toArray,hul]
  exact beq_false_of_ne (by omega)
 simp_all[Oper.wp,execOp,Instr.storeAt,Instr.sureAddr,storeVar,Value.cells,Oper.upon,Act.put]
theorem Q6{a:Act}{w:World}{d:Nat}{x y:Operand}{t:TypeId}{r k m n bytes:Nat}{ty:TypeId}{ds es:List Dat}{u:Value}(hg:o.guard=none)(hd:o.dst=some d)(hn:Nat.blt d cx.n=true)(ho:o.op=.call { callee:=.builtin .append,args := #[x,y],argTypes := #[t,t] })(hrel:Rel cx T B R M V a w)(hxv:a.eval x=V r)(hr:lk r R=some ⟨ty,k,n,ds,false⟩)(hyu:a.eval y=u)
  (hsrc:((∃ c,u=.slice none 0 c)/\m=0/\es=[]) \/ ∃ ad c news,u=.slice (some ad) m c/\news.length=m*k/\(∀ (j:Nat) v,news[j]?=some v->w.cell? (ad.add j)=some v)/\Fits w (Dc cx B R M V w) es news)
  (ht:P.underlying t=some (.slice ty)) (hz:(P.info? ty).map (fun i=>(i.size,i.bytes,i.zero.map (·.cells.size)))=some (k,bytes,some k)) (hk:Nat.blt 0 k=true) (h1:es.all Dat.isOne=true) (hb1:n+m<=140737488355328) (hb2:(n+m)*bytes<=140737488355328)
  (hE:E cx ((d,.own r)::ID r T) (GO r B) ((r,⟨ty,k,n+m,ds++es,false⟩)::R) (wpList P ops Q l)) (hty:Nat.blt ty 1000000=true):wpList P ops Q (o::l) a w:=by
 refine wpList_plain hg fun K hK=>?_
 have hh:=hrel.heap
 have hrow:=hh.row r _ hr
 obtain⟨xs,hown,hfx⟩:Gr w (Dc cx B R M V w) 0 ty k (V r) n ds:=Gx.row hrow hty
 cases hi:P.info? ty with
 | none=>grind
 | some i=>
  cases hzz:i.zero with
  | none=>grind
  | some z=>
   simp only[hi,hzz,Option.map_some,Option.some.injEq,Prod.mk.injEq]at hz
   obtain⟨z1,z2,z3⟩:=hz
   have hk0:0<k:=by simpa using hk
   have hout:∃ v' w' news,(Builtin.append_ #[t,t] o.type #[V r,u]).run P w=.ok v' w'/\w'.ownsRow 0 ty k v' (n+m) (xs++news)/\w.grownBy w' (V r).ownBlock/\(v'.ownBlock=(V r).ownBlock\/v'.ownBlock=some w.heap.size)/\Fits w (Dc cx B R M V w) es news:=by
    rcases hsrc with⟨⟨c,rfl⟩,rfl,rfl⟩ | ⟨ad,c,news,rfl,hnl,hnx,hfe⟩
    ·subst z1
     exact⟨V r,w,[],EY w 0 t o.type ty i i.size ht hi (V r) n xs hown c,by grind,World.grownBy.refl w _,.inl rfl,Fits.nil _ _⟩
    ·obtain⟨v',w',hrun,hown',hgr,_,hblk⟩:=run_append_own_at (P:=P) w 0 t o.type ty i z k bytes ht hi hzz z1 z2 z3 hk0 (V r) n xs hown ad m c news hnl hnx (hfe.one h1)
      (by grind[maxLen]) hb2 (Nat.zero_le _)
     grind
   obtain⟨v',w',news,hrun,hown',hgr,hblk,hfe⟩:=hout
   rw[<- D4 hown,<- D4 hown']at hblk
   rw[<- D4 hown]at hgr
   obtain⟨V',_,hrel'⟩:=hrel.appended hr hfx hfe hown' hgr hblk hn hty
   have:=hK _ _ (hE M V' _ _ hrel')
   simp_all[Oper.wp,execOp,resolve,invoke,builtin,Oper.upon]
theorem J4{d:Nat}{x y:Operand}{t:TypeId}{r q k m n bytes:Nat}{ty tq:TypeId}{ds es:List Dat}(hg:o.guard=none)(hd:o.dst=some d)(hn:Nat.blt d cx.n=true)(ho:o.op=.call { callee:=.builtin .append,args := #[x,y],argTypes := #[t,t] })(hx:Kn T x (.own r))(hr:lk r R=some ⟨ty,k,n,ds,false⟩)(hy:Kn T y (.own q))(hq:lk q R=some ⟨tq,k,m,es,false⟩)
  (ht:P.underlying t=some (.slice ty)) (hz:(P.info? ty).map (fun i=>(i.size,i.bytes,i.zero.map (·.cells.size)))=some (k,bytes,some k)) (hk:Nat.blt 0 k=true) (h1:es.all Dat.isOne=true) (hb1:n+m<=140737488355328) (hb2:(n+m)*bytes<=140737488355328)
  (hE:E cx ((d,.own r)::ID r T) (GO r B) ((r,⟨ty,k,n+m,ds++es,false⟩)::R) (wpList P ops Q l)) (hty:Nat.blt ty 1000000=true:=by rfl) (htq:Nat.blt tq 1000000=true:=by rfl):E cx T B R (wpList P ops Q (o::l)):=fun M V a w hrel=>by
 have hyv:a.eval y=V q:=hy w (Dc cx B R M V w) M V a fun t z _ hz=>hrel.tmp t z hz
 refine Q6 hg hd hn ho hrel (hx w (Dc cx B R M V w) M V a fun t z _ hz=>hrel.tmp t z hz) hr hyv ?_ ht hz hk h1 hb1 hb2 hE hty
 obtain⟨xs,hown,hfx⟩:Gr w (Dc cx B R M V w) 0 tq k (V q) m es:=Gx.row (hrel.heap.row q _ hq) htq
 rcases hown.2 with⟨e1,e2⟩ | ⟨g,cap,cur,e1,_,e2,e3,e4,e5,e6⟩
 ·subst e2
  have hl:=hown.1
  rw[Nat.zero_mul]at hl
  have hx0:xs=[]:=List.length_eq_zero_iff.1 hl
  subst hx0
  have:=hfx.1
  exact .inl ⟨⟨0,e1⟩,rfl,List.length_eq_zero_iff.1 (by simpa using this)⟩
 ·refine .inr ⟨⟨g,0,none⟩,cap,xs,e1,hown.1,fun j v hv=>?_,hfx⟩
  rw[PH,Nat.zero_add,KG e2]
  subst e6
  grind
def QF(m:Nat)(u v:Value):Prop:=∃ p n c,u=.slice p n c/\v=.slice p m c
theorem MK{x hi:Operand}{t:TypeId}{r ty k n:Nat}{ds:List Dat}{kk:IntKind}{z:Int}(ho:o.op=.slice t x none (some hi) none)(hx:Kn T x (.own r))(hr:lk r R=some ⟨ty,k,n,ds,false⟩)(hh:Kn T hi (.is (.int kk z)))(hz:0<=z/\z<=(n:Int))(ht:P.underlying t=some (.slice (P.elem t)))(hs:sizeT P (P.elem t)=some k)(hty:Nat.blt ty 1000000=true:=by rfl):
  LStep P cx B R o T (.via r (QF z.toNat)):=LStep.same fun M V w a hhr hkk=>by
 have h1:a.eval x=V r:=hkk x _ (by grind[Op.operands]) hx
 have h2:=(hkk hi _ (by grind[Op.operands]) hh).is_eq
 obtain⟨p,cap,hVr,hcap,hp⟩:=hhr.own_slice hr hty
 have h5:=run_slice_h (P:=P) (w:=w) t p n cap ht kk z hz.1 (by omega)
 rw[D3 hs,Result.andThen_ok,<- run_sliceAt_slice _ _ _ _ _ _ ht]at h5
 have e:sliced p 0 z.toNat cap k=.slice p z.toNat cap:=by
  unfold sliced
  rw[Nat.zero_mul,Nat.sub_zero,Nat.sub_zero]
  congr 1
  split
  ·rfl
  ·cases p with
   | none=>rfl
   | some ad=>simp[Addr.add]
 rw[e]at h5
 exact⟨.slice p z.toNat cap,by simp_all[execOp],p,n,cap,hVr,rfl⟩
theorem OQ{K:Act->World->Prop}{t r k n:Nat}{ty:TypeId}{ds:List Dat}(ht:lk t T=some (.via r (QF 0)))(hr:lk r R=some ⟨ty,k,n,ds,false⟩)(h:E cx ((t,.own r)::ID r T) (GO r B) ((r,⟨ty,k,0,[],false⟩)::R) K)(hty:Nat.blt ty 1000000=true:=by rfl):E cx T B R K:=fun M V a w hrel=>by
 have hh:=hrel.heap
 obtain⟨p,n',c,hVr,htv⟩:QF 0 (V r) (a.tmps.getD t undef):=hrel.tmp t _ ht
 obtain⟨xs,hown,hfx⟩:Gr w (Dc cx B R M V w) 0 ty k (V r) n ds:=Gx.row (hh.row r _ hr) hty
 have hob:obk (.slice p 0 c)=obk (V r):=by
  rw[hVr]
  cases p<;>rfl
 have hown0:w.ownsRow 0 ty k (.slice p 0 c) 0 []:=by
  refine⟨by simp,?_⟩
  rcases hown.2 with⟨h0,_⟩ | ⟨g',cap',cur,h2,hbg,hgw,hnc,hcm,hcs,htake⟩
  ·rw[hVr]at h0
   cases h0
   exact .inl ⟨rfl,rfl⟩
  ·rw[hVr]at h2
   cases h2
   exact .inr ⟨g',c,cur,rfl,hbg,hgw,Nat.zero_le _,hcm,hcs,by simp⟩
 obtain⟨V',hV',h2⟩:=hrel.grown0 (w':=w) (z':=⟨ty,k,0,[],false⟩) (v':=.slice p 0 c) hr rfl rfl (World.grownBy.refl w _) (fun g hg=>.inl (.inl (hob▸GR hg (CB hty)))) fun D' hk hD=>⟨_,.inl ⟨hty,hown0⟩,.inl ⟨CB hty,Fits.nil _ _⟩⟩
 refine h M V' a w ⟨h2.size,h2.defers,h2.heap,fun q z hz=>?_⟩
 rcases AJ hz with⟨rfl,rfl⟩ | ⟨_,hz⟩
 ·exact htv.trans hV'.symm
 ·exact h2.tmp q z hz
theorem UB(r s:Nat){d:Nat}{ty:TypeId}{x:Operand}{k:Nat}{ds:List Dat}(hg:o.guard=none)(hd:o.dst=some d)(hn:Nat.blt d cx.n=true)(ho:o.op=.box ty x)(hx:Kn T x (.part (.many ds)))(hl:ds.length=k)(hT:QY r T=true)(hB:QX r B=true)
  (hE:∀ g,E cx ((d,.is (.pointer (some ⟨g,0,none⟩)))::(s,EU r (.slice (some ⟨g,0,none⟩) 1 1))::T) B ((r,⟨ty,k,1,ds,false⟩)::R) (wpList P ops Q l)) (hty:Nat.blt ty 1000000=true:=by rfl):E cx T B R (wpList P ops Q (o::l)):=fun M V a w hrel=>by
 refine wpList_plain hg fun K hK=>?_
 obtain⟨xs,hv,hf⟩:=hx w (Dc cx B R M V w) M V a fun t z _ hz=>hrel.tmp t z hz
 have hb:Below w.heap.size w (w.alloc (.cells xs.toArray ty)):=(Below.refl _ _).alloc (Nat.le_refl _) _
 have hxl:xs.length=k:=by rw[<- hf.1,hl]
 have hown:(w.alloc (.cells xs.toArray ty)).ownsRow w.heap.size ty k (.slice (some ⟨w.heap.size,0,none⟩) 1 1) 1 xs:=
  ⟨by omega,.inr ⟨w.heap.size,1,xs.toArray,rfl,Nat.le_refl _,heap_alloc_new w _,Nat.le_refl _,by decide,by simp;omega,by simp[<- hxl]⟩⟩
 obtain⟨V',hVr,hr0⟩:=hrel.own_newD hb (hf.stay (hrel.heap.keeps hb) fun _ hg=>hg) hown r hT hB hty
 have hr00:Rel cx ((s,EU r (.slice (some ⟨w.heap.size,0,none⟩) 1 1))::T) B ((r,⟨ty,k,1,ds,false⟩)::R) M V' a (w.alloc (.cells xs.toArray ty)):=⟨hr0.size,hr0.defers,hr0.heap,fun q z hz=>by
  rcases AJ hz with⟨rfl,rfl⟩ | ⟨_,hz⟩
  ·exact hVr
  ·exact hr0.tmp q z hz⟩
 have hr1:=hr00.put (Below.refl _ _) (CT hn) (x:=.is (.pointer (some ⟨w.heap.size,0,none⟩))) (.cell _)
 have:=hK _ _ (hE _ M V' _ _ hr1)
 simp_all[Oper.wp,execOp,Instr.box,newVar,newRow,Value.cells,Oper.upon]
end
def EOD(P:Program)(gls:List (Nat×List Value))(f:FuncId)(ps:List Part)(ty k n:Nat)(ds:List Dat):Prop:=
 ∀ (w:World) (D:Nat->Prop) (vs:List Value),(∀ g,D g->g<w.heap.size)->UC gls w->PsFit w D ps vs->Calls P f vs.toArray w fun e w'=>∃ v cs,e=.returned v/\Below w.heap.size w w'/\w'.ownsRow w.heap.size ty k v n cs/\Fits w' D ds cs
theorem T9{w:World}{D:Nat->Prop}{k n:Nat}{ds:List Dat}{v:Value}(h1:ds.all Dat.isOne=true)(h:Lies w D (.row k n ds) v):∃ cs:List Value,(∀ c∈cs,c.oneCell'=true)/\cs.length=n*k/\Fits w D ds cs/\Lies w D (.row k n (cs.map .cell)) v:=by
 cases h with
 | none k p c=>exact⟨[],fun _ h=>(by cases h),by simp,Fits.nil _ _,.none k p c⟩
 | row k n b o c ds X hn hnc hl hb hc hX=>
  have hf:Fits w D ds ((List.range ds.length).map X):=⟨by simp,fun j d x hd hx=>by
   rw[List.getElem?_map,Option.map_eq_some_iff]at hx
   obtain⟨i,hi,rfl⟩:=hx
   have hi':i=j:=by grind
   subst hi'
   exact hX i d hd⟩
  refine⟨(List.range ds.length).map X,hf.one h1,by simp[hl],hf,.row k n b o c _ X hn hnc (by simp[hl]) hb (fun j hj=>hc j (by simpa using hj)) fun j d hd=>?_⟩
  have hd':d=.cell (X j):=by grind
  subst hd'
  exact .cell _
section
variable{P:Program}
theorem EOD.of{gls:List (Nat×List Value)}{f:FuncId}{ty k n:Nat}{ds:List Dat}(h1:ds.all Dat.isOne=true)(h:∀ cs:List Value,(∀ c∈cs,c.oneCell'=true)->cs.length=n*k->EO P gls f [.one (.row k n (cs.map .cell))] ty k n cs):EOD P gls f [.one (.row k n ds)] ty k n ds:=fun w D vs hD hG hp=>by
 match vs,hp with
 | [v],hp=>
  obtain⟨cs,c1,c2,c3,c4⟩:=T9 h1 hp.1
  refine(h cs c1 c2 w D [v] hD hG ⟨c4,trivial⟩).mono ?_
  rintro e w' ⟨u,h1,h2,h3⟩
  exact⟨u,cs,h1,h2,h3,c3.stay (.of_below h2 hD) fun _ h=>h⟩
 | _::_::_,hp=>exact hp.2.elim
 | [],hp=>exact hp.elim
variable{cx:Cx}{T:TL}{B:BL}{R:RL}{M:Nat->Nat}{V:Nat->Value}{o:Oper}
theorem HQ{ops:Array Oper}{Q:Exit->Act->World->Prop}(r:Nat){l:List Oper}{d:Nat}{f:FuncId}{xs:List Operand}{ts:Array TypeId}{ps:List Part}{ty k n:Nat}{ds:List Dat}
  (hg:o.guard=none) (hd:o.dst=some d) (hn:Nat.blt d cx.n=true) (ho:o.op=.call { callee:=.value (.func f),args:=xs.toArray,argTypes:=ts }) (hc:AU P f=true) (hf:EOD P cx.gl f ps ty k n ds) (hx:KnA T xs ps)
  (hT:QY r T=true) (hB:QX r B=true)
  (hE:E cx ((d,.own r)::T) B ((r,⟨ty,k,n,ds,false⟩)::R) (wpList P ops Q l)) (hty:Nat.blt ty 1000000=true:=by rfl):E cx T B R (wpList P ops Q (o::l)):=fun M V a w hrel=>by
 refine wpList_plain hg fun K hK=>?_
 have hrun:(execOp a.eval o).run P w=.ok (.enter f (xs.map a.eval).toArray) w:=by
  have he:a.eval (.func f)=.func (.func f) #[] #[]:=rfl
  simp[execOp,ho,resolve,he,Deferred.ofValue,invoke,D2 hc]
 unfold Oper.wp
 rw[hrun]
 simp only[Oper.upon,hd]
 refine(hf w (Dc cx B R M V w) _ (fun g hg=>hrel.heap.dlt hg) hrel.heap.glok (hx.fit fun x z _ hkx=>hkx w _ M V a fun t z' _ hz=>hrel.tmp t z' hz)).mono ?_
 rintro e w' ⟨v,cs,rfl,hb,hown,hf2⟩
 refine hK _ _ ?_
 obtain⟨V',hVr,hr0⟩:=hrel.own_newD hb hf2 hown r hT hB hty
 exact hE M V' _ _ (hr0.put (Below.refl _ _) (CT hn) hVr.symm)
end
end
end Go.Proofs.Ytecfdcdkkgmkpaa
