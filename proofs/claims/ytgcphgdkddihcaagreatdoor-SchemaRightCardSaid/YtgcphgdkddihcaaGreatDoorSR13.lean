/- Part 13. Conditions: as each theorem says. -/
import Derived.Test.YtgcphgdkddihcaaGreatDoorSR12
set_option maxRecDepth 100000
namespace Go.Proofs.YtgcphgdkddihcaaGreatDoor
open Go.RowKit
section
section
variable{P:Program}{cx:Cx}{T:TL}{B:BL}{R:RL}{M:Nat->Nat}{V:Nat->Value}{o:Oper}{ops:Array Oper}{Q:Exit->Act->World->Prop}{l:List Oper}
theorem L6{f:FuncId}{ys:List Operand}{ds:List Dat}(ho:o.op=.makeFunc (.func f) #[] ys.toArray)(hy:KnA T ys (ds.map Part.one)):LStep P cx B R o T (.part (.one (.fn f ds))):=LStep.same fun M V w a _ hk=>by
 have h1:=hy.fit (w:=w) (D:=Dc cx B R M V w) (M:=M) (V:=V) (a:=a) fun x z hm hkx=>hk x z (by simp[ho,Op.operands,hm]) hkx
 have hfit:∀ (ds:List Dat) (vs:List Value),PsFit w (Dc cx B R M V w) (ds.map Part.one) vs->Fits w (Dc cx B R M V w) ds vs:=fun ds=>by
  induction ds with
  | nil=>
   intro vs h
   cases vs with
   | nil=>exact Fits.nil _ _
   | cons v vs=>exact h.elim
  | cons d ds ih=>
   intro vs h
   cases vs with
   | nil=>exact h.elim
   | cons v vs=>exact Fits.cons h.1 (ih vs h.2)
 have h2:=hfit ds _ h1
 refine⟨.func (.func f) #[] (ys.map a.eval).toArray,?_,.fn f ds _ h2.1 h2.2⟩
 unfold execOp
 simp only[ho,List.map_toArray]
 simp only[Instr.makeFunc]
 rfl
theorem Q0p{K:Act->World->Prop}(b j:Nat){c i:Nat}{bx:Bx}{is:List IV}(hb:lk b B=some bx)(hj:bx.cs[j]?=some (.box c i))(hc:cx.pn.any (fun x=>Nat.beq x c)=true)(his:bx.cs.set j (.is (.pointer (some ⟨cx.mb c,i,none⟩)))=is)(h:E cx T ((b,⟨bx.ty,is⟩)::B) R K):E cx T B R K:=fun M V a w hr=>by
 obtain⟨_,cs,a2,a3⟩:=hr.heap.box b bx hb
 have hm:M c=cx.mb c:=hr.heap.pin c (JK hc)
 refine h M V a w (hr.set hb a2 (fun _ _=>rfl) rfl rfl rfl rfl ⟨by rw[<- his];simp[a3.1],fun k z u hz hu=>?_⟩)
 rw[<- his,List.getElem?_set]at hz
 split at hz
 ·rename_i hij
  subst hij
  split at hz
  ·obtain rfl:=Option.some.inj hz
   have h1:=a3.2 j _ u hj hu
   have h2:u=.pointer (some ⟨M c,i,none⟩):=h1.1
   refine⟨?_,h1.2⟩
   rw[h2,hm]
   exact .cell _
  ·cases hz
 ·exact a3.2 k z u hz hu
theorem DE{x:Operand}{t:TypeId}{c i:Nat}{ds:List Dat}(ho:o.op=.load t x)(hx:Kn T x (.ref (.cell (.pointer (some ⟨cx.mb c,i,none⟩))::ds)))(hc:cx.pn.any (fun x=>Nat.beq x c)=true)(ht:oneT P t=true):LStep P cx B R o T (.box c i):=fun M V w a hh ht'=>by
 have h1:LStep P cx B R o T (.part (.one (.cell (.pointer (some ⟨cx.mb c,i,none⟩))))):=AD ho hx ht
 have h2:=h1 M V w a hh ht'
 have hm:M c=cx.mb c:=hh.pin c (JK hc)
 revert h2
 cases(execOp a.eval o).run P w with
 | ok n w'=>
  cases n with
  | value v=>
   rintro⟨h3,h4⟩
   exact⟨h3,by show v=_;rw[hm];exact Lies.cell_eq h4⟩
  | skip=>
   rintro⟨h3,h4⟩
   exact⟨h3,by show _=_;rw[hm];exact Lies.cell_eq h4⟩
  | enter f args=>
   rintro⟨h3,h4⟩
   exact⟨h3,h4.mono fun e w'' ⟨v,h5,h6,h7⟩=>⟨v,h5,h6,by show v=_;rw[hm];exact Lies.cell_eq h7⟩⟩
  | _=>exact fun h=>h
 | _=>exact fun h=>h
def PinV(V:Nat->Value):List (Nat×Value)->Prop
 | []=>True
 | x::l=>V x.1=x.2/\PinV V l
def Q0i(p:List (Nat×Value)):TL:=p.map fun x=>(9000+x.1,LQ x.1 x.2)
def PinL(T:TL):List (Nat×Value)->Prop
 | []=>True
 | x::l=>lk (9000+x.1) T=some (LQ x.1 x.2)/\PinL T l
theorem RY{V:Nat->Value}{w:World}{D:Nat->Prop}{M:Nat->Nat}{u:Value}:∀ {p:List (Nat×Value)} (_:PinV V p) {t:Nat} {z:IV} (_:lk t (Q0i p)=some z),VR w D M V z u
 | [],_,_,_,h=>by cases h
 | x::p,hp,t,z,h=>by
  rcases AK (show lk t ((9000+x.1,LQ x.1 x.2)::Q0i p)=some z from h)with⟨_,rfl⟩ | ⟨_,h⟩
  ·exact hp.1
  ·exact RY hp.2 h
theorem PinL.v{a:Act}{w:World}(hr:Rel cx T B R M V a w):∀ {p:List (Nat×Value)},PinL T p->PinV V p
 | [],_=>trivial
 | _::_,h=>⟨hr.tmp _ _ h.1,PinL.v hr h.2⟩
theorem PinV.of{V V':Nat->Value}:∀ {p:List (Nat×Value)},(∀ x∈p,V x.1=V' x.1)->PinV V p->PinV V' p
 | [],_,_=>trivial
 | x::p,h,hp=>⟨(h x List.mem_cons_self).symm.trans hp.1,PinV.of (fun y hy=>h y (List.mem_cons_of_mem _ hy)) hp.2⟩
def WI(cx:Cx)(Y:IV->BL->RL->List (Nat×Value)->Prop)(e:Ending)(w':World):Prop:=∃ v y B1 R1 p1 M1 V1,e=.returned v/\Y y B1 R1 p1/\HR cx B1 R1 M1 V1 w'/\VR w' (Dc cx B1 R1 M1 V1 w') M1 V1 y v/\PinV V1 p1
def EGp(P:Program)(gls:List (Nat×List Value))(f:FuncId)(xs:List IV)(B:BL)(R:RL)(p:List (Nat×Value))(Pre:(Nat->Nat)->Prop)(Y:IV->BL->RL->List (Nat×Value)->Prop):Prop:=
 ∀ (w:World) (D:Nat->Prop) (M:Nat->Nat) (V:Nat->Value) (vs:List Value) (n:Nat),HR (lcx w D n gls B R M V) B R M V w->VRs w (Dc (lcx w D n gls B R M V) B R M V w) M V xs vs->Pre M->PinV V p->Calls P f vs.toArray w (WI (lcx w D n gls B R M V) Y)
theorem Q3X{α:Type}(i:Nat)(l m:List (Nat×α)){x:α}(h:lk i (l++m)=some x):lk i l=some x\/lk i m=some x:=by
 rw[L5]at h
 cases hl:lk i l with
 | none=>rw[hl]at h;exact .inr h
 | some z=>rw[hl]at h;exact .inl h
theorem GY{gls:List (Nat×List Value)}{f:FuncId}{fn:Func}{c:Code}{xs:List IV}{B:BL}{R:RL}{p:List (Nat×Value)}{Pre:(Nat->Nat)->Prop}{Y:IV->BL->RL->List (Nat×Value)->Prop}(n:Nat)(hf:P.funcs[f]?=some fn)(hb:fn.body=some c)(hn:fn.ntmps=n)(hle:Nat.ble xs.length n=true)
  (h:∀ (w:World) (D bor:Nat->Prop) (mb:Nat->Nat),Pre mb->E ⟨w,D,bor,n,gls,names B,mb⟩ (W3 0 xs++Q0i p) B R (c.wp P (bodyPost P fn (WI ⟨w,D,bor,n,gls,names B,mb⟩ Y)))):EGp P gls f xs B R p Pre Y:=fun w D M V vs m hh hp hpre hpin=>by
 refine calls_of_wp hf hb ?_
 have hl:=hp.length
 have hle':=Nat.le_of_ble_eq_true hle
 have hpost:=h w D (Bor B R M V) M hpre M V { tmps:=vs.toArray++Array.replicate (fn.ntmps-vs.toArray.size) undef,defers:=[] } w ⟨by simp[hn];omega,rfl,hh.n n,fun t x hx=>?_⟩
 ·refine wp_mono hpost fun e a w' hq=>?_
  cases e<;>simp only[bodyPost]at hq ⊢
  case normal=>
   obtain⟨h1,v,h2,v',y,B1,R1,p1,M1,V1,h3,h4,h5,h6,h7⟩:=hq
   exact⟨h1,v,h2,v',y,B1,R1,p1,M1,V1,h3,h4,h5.n m,h6,h7⟩
  case ret=>
   obtain⟨h1,v,h2,v',y,B1,R1,p1,M1,V1,h3,h4,h5,h6,h7⟩:=hq
   exact⟨h1,v,h2,v',y,B1,R1,p1,M1,V1,h3,h4,h5.n m,h6,h7⟩
  case panic chain=>
   obtain⟨_,v',y,B1,R1,p1,M1,V1,h3,_⟩:=hq
   cases h3
  case outgrown=>
   obtain⟨v',y,B1,R1,p1,M1,V1,h3,_⟩:=hq
   cases h3
 ·rcases Q3X _ _ _ hx with hx | hx
  ·obtain⟨h1,_⟩:=M5 hx
   obtain⟨v,h2,h3⟩:=hp.get h1
   rw[Nat.sub_zero]at h2
   have hlt:t<vs.length:=by
    rcases Nat.lt_or_ge t vs.length with h | h
    ·exact h
    ·rw[List.getElem?_eq_none h]at h2;cases h2
   have h4:vs[t]=v:=by
    rw[List.getElem?_eq_getElem hlt]at h2
    exact Option.some.inj h2
   have hv:(vs.toArray++Array.replicate (fn.ntmps-vs.toArray.size) undef).getD t undef=v:=by
    simp[Array.getElem?_append,hlt,h4]
   show VR _ _ _ _ _ ((vs.toArray++Array.replicate (fn.ntmps-vs.toArray.size) undef).getD t undef)
   rw[hv]
   exact h3
  ·exact RY hpin hx
theorem Q1l{fn:Func}{Y:IV->BL->RL->List (Nat×Value)->Prop}{rs:List ResultVar}{ps:List Part}{y:IV}(B1:BL)(R1:RL)(p1:List (Nat×Value))(hrs:fn.results=rs.toArray)(hk:KnR P T B rs ps)(hi:Imp (P0 ps) y)(hB:SubB B B1)(hR:SubR R R1)(hp:PinL T p1)(hY:Y y B1 R1 p1):∀ M V a w,Rel cx T B R M V a w->a.defers=[] /\ ∃ v,(results fn a.tmps).run P w=.ok v w/\WI cx Y (.returned v) w:=fun M V a w hr=>by
 obtain⟨vs,h1,h2⟩:=hk.run hr
 have h3:=hr.sub (T':=[]) trivial hB hR
 have hD:∀ g,Dc cx B R M V w g->Dc cx B1 R1 M V w g:=fun g hg=>by
  rcases hg with hg | ⟨a1,a2,a3,a4⟩
  ·exact .inl hg
  ·exact .inr ⟨a1,a2,fun b x hx=>by obtain⟨z,hz,_⟩:=hB.get hx;exact a3 b z hz,fun r x hx=>a4 r x (hR.get hx)⟩
 refine⟨hr.defers,_,?_,_,y,B1,R1,p1,M,V,rfl,hY,h3.heap,(hi _ _ _ _ _ (Q0I (M:=M) (V:=V) h2)).stay (Keeps.refl _ _) hD,hp.v hr⟩
 have e:results fn a.tmps=(do let vs <- fn.results.mapM (KT a.tmps);pure (if h:vs.size=1 then vs[0]else .tuple vs)):=by
  unfold results
  congr 1
 rw[e,hrs]
 simp[h1]
theorem BS{fn:Func}{Y:IV->BL->RL->List (Nat×Value)->Prop}{rs:List ResultVar}{ps:List Part}{y:IV}(B1:BL)(R1:RL)(p1:List (Nat×Value))(hrs:fn.results=rs.toArray)(hk:KnR P T B rs ps)(hi:Imp (P0 ps) y)(hB:SubB B B1)(hR:SubR R R1)(hp:PinL T p1)(hY:Y y B1 R1 p1):E cx T B R (bodyPost P fn (WI cx Y) .ret):=Q1l B1 R1 p1 hrs hk hi hB hR hp hY
def NU(B0:BL)(R0:RL)(y:IV)(B1:BL)(R1:RL)(p1:List (Nat×Value)):Prop:=H0 B0 R0 y B1 R1 /\ ∀ x∈p1,x.1∈names R0
theorem S8{d:Nat}{f:FuncId}{ys:List IV}{B0:BL}{R0:RL}{p0:List (Nat×Value)}{Pre:(Nat->Nat)->Prop}{Y:IV->BL->RL->List (Nat×Value)->Prop}(hg:o.guard=none)(hd:o.dst=some d)(hn:Nat.blt d cx.n=true)
  (hrun:∀ M V a w,Rel cx T B R M V a w -> ∃ vs:List Value,(execOp a.eval o).run P w=.ok (.enter f vs.toArray) w/\VRs w (Dc cx B R M V w) M V ys vs)
  (hf:EGp P cx.gl f ys B0 R0 p0 Pre Y) (hB:LentB B B0) (hR:LentR R R0) (hpre:∀ M:Nat->Nat,(∀ b,b∈cx.pn->M b=cx.mb b)->Pre M) (hp:PinL T p0) (hY:∀ y B1 R1 p1,Y y B1 R1 p1->NU B0 R0 y B1 R1 p1)
  (hE:∀ y B1 R1 p1,Y y B1 R1 p1->E cx ((d,y)::(Q0i p1++I4 (names R0) T)) (B1++EI (names R0) B) (R1++R) (wpList P ops Q l)):E cx T B R (wpList P ops Q (o::l)):=fun M V a w hr=>by
 refine wpList_plain hg fun K hK=>?_
 obtain⟨vs,h1,hv⟩:=hrun M V a w hr
 unfold Oper.wp
 rw[h1]
 simp only[Oper.upon,hd]
 have hL:Lent B R (fun b=>b) (fun r=>r) B0 R0:=LentI.lent ⟨fun _ _ h=>hB.get h,fun _ _ h=>hR.get h⟩
 have hlend:=hr.heap.lend hL
 refine(hf w (Dc cx B R M V w) M V vs 0 hlend (hv.stay (Keeps.refl _ _) fun g hg=>.inl hg) (hpre M hr.heap.pin) (hp.v hr)).mono fun e w' ⟨v,y,B1,R1,p1,M1,V1,g1,g2,g3,g4,g5⟩=>?_
 subst g1
 obtain⟨⟨e1,e2,e3,e4⟩,e5⟩:=hY y B1 R1 p1 g2
 obtain⟨V',hV',h5⟩:=hr.back hL e1 e2 e3 e4 g3 g4 (C0 hn)
 rw[IV.ren_id,VU,VK,List.map_id']at h5
 refine hK _ _ (hE y B1 R1 p1 g2 M V' _ _ ⟨h5.size,h5.defers,h5.heap,fun t z hz=>?_⟩)
 rcases AK hz with⟨rfl,rfl⟩ | ⟨hne,hz⟩
 ·exact h5.tmp _ _ (B5 _ _ _)
 ·rcases Q3X _ _ _ hz with hz | hz
  ·exact RY (g5.of fun x hx=>hV' x.1 (e5 x hx)) hz
  ·exact h5.tmp t z ((BG _ _ hne).trans hz)
def Q1n(T:TL)(xs:List Operand)(ys:List IV):Prop:=∀ (w:World) (D:Nat->Prop) (M:Nat->Nat) (V:Nat->Value) (a:Act),(∀ t z,lk t T=some z->VR w D M V z (a.tmps.getD t undef))->VRs w D M V ys (xs.map a.eval)
theorem KnX.all{xs:List Operand}{ys:List IV}(h:KnX T xs ys):Q1n T xs ys:=fun _ _ _ _ _ hT=>h.vrs hT
theorem Q2{d:Nat}{f:FuncId}{xs:List Operand}{ts:Array TypeId}{ys:List IV}{B0:BL}{R0:RL}{p0:List (Nat×Value)}{Pre:(Nat->Nat)->Prop}{Y:IV->BL->RL->List (Nat×Value)->Prop}(hg:o.guard=none)(hd:o.dst=some d)(hn:Nat.blt d cx.n=true)(ho:o.op=.call { callee:=.value (.func f),args:=xs.toArray,argTypes:=ts })(hc:BU P f=true)
  (hx:Q1n T xs ys) (hf:EGp P cx.gl f ys B0 R0 p0 Pre Y) (hB:LentB B B0) (hR:LentR R R0) (hpre:∀ M:Nat->Nat,(∀ b,b∈cx.pn->M b=cx.mb b)->Pre M) (hp:PinL T p0) (hY:∀ y B1 R1 p1,Y y B1 R1 p1->NU B0 R0 y B1 R1 p1)
  (hE:∀ y B1 R1 p1,Y y B1 R1 p1->E cx ((d,y)::(Q0i p1++I4 (names R0) T)) (B1++EI (names R0) B) (R1++R) (wpList P ops Q l)):E cx T B R (wpList P ops Q (o::l)):=
 S8 hg hd hn (fun M V a w hr=>by
  have he:a.eval (.func f)=.func (.func f) #[] #[]:=rfl
  exact⟨xs.map a.eval,by simp[execOp,ho,resolve,he,Deferred.ofValue,invoke,C2 hc],hx w _ M V a fun t z hz=>hr.tmp t z hz⟩) hf hB hR hpre hp hY hE
theorem X7{d:Nat}{f:FuncId}{x:Operand}{xs:List Operand}{ts:Array TypeId}{fs cs:List Cap}{zs ys:List IV}{B0:BL}{R0:RL}{p0:List (Nat×Value)}{Pre:(Nat->Nat)->Prop}{Y:IV->BL->RL->List (Nat×Value)->Prop}(hg:o.guard=none)(hd:o.dst=some d)(hn:Nat.blt d cx.n=true)(ho:o.op=.call { callee:=.value x,args:=xs.toArray,argTypes:=ts })(hc:BU P f=true)
  (hxf:Kn T x (.clo (.func f) fs cs)) (hx:Q1n T xs zs) (hys:ys=fs.map Cap.iv++zs++cs.map Cap.iv) (hf:EGp P cx.gl f ys B0 R0 p0 Pre Y) (hB:LentB B B0) (hR:LentR R R0) (hpre:∀ M:Nat->Nat,(∀ b,b∈cx.pn->M b=cx.mb b)->Pre M) (hp:PinL T p0) (hY:∀ y B1 R1 p1,Y y B1 R1 p1->NU B0 R0 y B1 R1 p1)
  (hE:∀ y B1 R1 p1,Y y B1 R1 p1->E cx ((d,y)::(Q0i p1++I4 (names R0) T)) (B1++EI (names R0) B) (R1++R) (wpList P ops Q l)):E cx T B R (wpList P ops Q (o::l)):=
 S8 hg hd hn (fun M V a w hr=>by
  have h1:a.eval x=.func (.func f) (fs.map (F7 M)).toArray (cs.map (F7 M)).toArray:=hxf w (Dc cx B R M V w) M V a fun t z _ hz=>hr.tmp t z hz
  refine⟨fs.map (F7 M)++xs.map a.eval++cs.map (F7 M),by simp[execOp,ho,resolve,h1,Deferred.ofValue,invoke,C2 hc],?_⟩
  rw[hys]
  exact((J3 fs).append (hx w _ M V a fun t z hz=>hr.tmp t z hz)).append (J3 cs)) hf hB hR hpre hp hY hE
theorem YL{w:World}{D:Nat->Prop}{M:Nat->Nat}{V:Nat->Value}:∀ {ds:List Dat} {vs:List Value},Fits w D ds vs->VRs w D M V (ds.map fun d=>.part (.one d)) vs
 | [],[],_=>trivial
 | d::ds,v::vs,h=>⟨h.2 0 d v rfl rfl,YL ⟨by simpa using h.1,fun j e u he hu=>h.2 (j+1) e u (by simpa using he) (by simpa using hu)⟩⟩
 | [],_::_,h=>by exact absurd h.1 (by simp)
 | _::_,[],h=>by exact absurd h.1 (by simp)
theorem Q1v{w:World}{D:Nat->Prop}{f:FuncId}{ds:List Dat}{v:Value}(h:Lies w D (.fn f ds) v):∃ xs:List Value,v=.func (.func f) #[] xs.toArray/\Fits w D ds xs:=by
 cases h with
 | fn f ds xs h1 h2=>exact⟨xs,rfl,h1,h2⟩
theorem Q3Y{d:Nat}{f:FuncId}{x:Operand}{xs:List Operand}{ts:Array TypeId}{caps:List Dat}{zs ys:List IV}{B0:BL}{R0:RL}{p0:List (Nat×Value)}{Pre:(Nat->Nat)->Prop}{Y:IV->BL->RL->List (Nat×Value)->Prop}(hg:o.guard=none)(hd:o.dst=some d)(hn:Nat.blt d cx.n=true)(ho:o.op=.call { callee:=.value x,args:=xs.toArray,argTypes:=ts })(hc:BU P f=true)
  (hxf:Kn T x (.part (.one (.fn f caps)))) (hx:Q1n T xs zs) (hys:ys=zs++caps.map fun d=>.part (.one d)) (hf:EGp P cx.gl f ys B0 R0 p0 Pre Y) (hB:LentB B B0) (hR:LentR R R0) (hpre:∀ M:Nat->Nat,(∀ b,b∈cx.pn->M b=cx.mb b)->Pre M) (hp:PinL T p0) (hY:∀ y B1 R1 p1,Y y B1 R1 p1->NU B0 R0 y B1 R1 p1)
  (hE:∀ y B1 R1 p1,Y y B1 R1 p1->E cx ((d,y)::(Q0i p1++I4 (names R0) T)) (B1++EI (names R0) B) (R1++R) (wpList P ops Q l)):E cx T B R (wpList P ops Q (o::l)):=
 S8 hg hd hn (fun M V a w hr=>by
  have h0:Lies w (Dc cx B R M V w) (.fn f caps) (a.eval x):=hxf w (Dc cx B R M V w) M V a fun t z _ hz=>hr.tmp t z hz
  obtain⟨cs,h1,h2⟩:=Q1v h0
  refine⟨xs.map a.eval++cs,by simp[execOp,ho,resolve,h1,Deferred.ofValue,invoke,C2 hc],?_⟩
  rw[hys]
  exact(hx w _ M V a fun t z hz=>hr.tmp t z hz).append (YL h2)) hf hB hR hpre hp hY hE
def QJ(w:World)(D:Nat->Prop)(ty:TypeId):Except Dat (List Dat)->Ending->World->Prop
 | .ok ds,e,w'=>∃ g cs,e=.returned (.tuple #[.pointer (some ⟨g,0,none⟩),.nilIface])/\Below w.heap.size w w'/\w.heap.size<=g/\Blk w' g ty cs/\Fits w' (fun x=>Dr w D w' x/\x≠g) ds cs /\ ∀ c∈cs,c.oneCell'=true
 | .error d,e,w'=>∃ v,e=.returned (.tuple #[.pointer none,v])/\Below w.heap.size w w'/\Lies w' (Dr w D w') d v
def EBx(P:Program)(gls:List (Nat×List Value))(f:FuncId)(ps:List Part)(ty:TypeId)(r:Except Dat (List Dat)):Prop:=
 ∀ (w:World) (D:Nat->Prop) (vs:List Value),(∀ g,D g->g<w.heap.size)->WX gls w->PsFit w D ps vs->Calls P f vs.toArray w (QJ w D ty r)
theorem UY{gls:List (Nat×List Value)}{f:FuncId}{fn:Func}{c:Code}{ps:List Part}{ty:TypeId}{r:Except Dat (List Dat)}(n:Nat)(hf:P.funcs[f]?=some fn)(hb:fn.body=some c)(hn:fn.ntmps=n)(hle:Nat.ble ps.length n=true)
  (h:∀ (w:World) (D:Nat->Prop),E ⟨w,D,fun _=>False,n,gls,[],fun _=>0⟩ (WH 0 ps) [] [] (c.wp P (bodyPost P fn (QJ w D ty r)))):EBx P gls f ps ty r:=fun w D vs hD hG hp=>by
 refine calls_of_wp hf hb ?_
 have hl:=hp.length
 have hle':=Nat.le_of_ble_eq_true hle
 have hpost:=h w D (fun _=>0) (fun _=>undef) { tmps:=vs.toArray++Array.replicate (fn.ntmps-vs.toArray.size) undef,defers:=[] } w ⟨by simp[hn];omega,rfl,⟨Bex.refl _ _,fun g hg=>⟨hD g hg,fun h=>h⟩,fun g hg=>hg.elim,fun g cs hg=>⟨⟨(hG g cs hg).1,fun h=>h⟩,(hG g cs hg).2⟩,fun b x hx=>(by cases hx),fun r x hx=>(by cases hx),fun r x g hx=>(by cases hx),fun b hb=>(by cases hb),fun b c x y hx=>(by cases hx),fun b r x y g hx=>(by cases hx),fun r q x y g hx=>(by cases hx)⟩,fun t x hx=>?_⟩
 ·refine wp_mono hpost fun e a w' hq=>?_
  cases e<;>simp only[bodyPost]at hq ⊢
  case normal=>exact hq
  case ret=>exact hq
  case panic chain=>
   cases r with
   | ok ds=>obtain⟨_,g,cs,h3,_⟩:=hq;cases h3
   | error d=>obtain⟨_,v,h3,_⟩:=hq;cases h3
  case outgrown=>
   cases r with
   | ok ds=>obtain⟨g,cs,h3,_⟩:=hq;cases h3
   | error d=>obtain⟨v,h3,_⟩:=hq;cases h3
 ·obtain⟨p,h1,rfl,_⟩:=LO hx
  rw[Nat.sub_zero]at h1
  obtain⟨v,h2,h3⟩:=hp.get h1
  have hlt:t<vs.length:=by
   rcases Nat.lt_or_ge t vs.length with h | h
   ·exact h
   ·rw[List.getElem?_eq_none h]at h2;cases h2
  have h4:vs[t]=v:=by
   rw[List.getElem?_eq_getElem hlt]at h2
   exact Option.some.inj h2
  have hv:(vs.toArray++Array.replicate (fn.ntmps-vs.toArray.size) undef).getD t undef=v:=by
   simp[Array.getElem?_append,hlt,h4]
  show VR _ _ _ _ _ ((vs.toArray++Array.replicate (fn.ntmps-vs.toArray.size) undef).getD t undef)
  rw[hv]
  exact h3.stay (Keeps.refl _ _) fun g hg=>.inl hg
theorem ZF(hbor:cx.bor=fun _=>False){fn:Func}{s t b ty:Nat}{bx:Bx}{ds:List Dat}(hrs:fn.results = #[.tmp s,.tmp t])(hs:lk s T=some (.box b 0))(ht:lk t T=some (.is .nilIface))(hb:lk b B=some bx)(hty:bx.ty=ty)(hm:manyOf bx.cs=some ds):E cx T B R (bodyPost P fn (QJ cx.w0 cx.D0 ty (.ok ds)) .ret):=fun M V a w hr=>by
 have hbl:Below cx.w0.heap.size cx.w0 w:=(show Bex (fun _=>False) cx.w0 w from hbor▸hr.heap.below).below
 have hv1:a.tmps.getD s undef=.pointer (some ⟨M b,0,none⟩):=hr.tmp s _ hs
 have hv2:a.tmps.getD t undef=.nilIface:=Lies.cell_eq (hr.tmp t _ ht)
 obtain⟨h0,cs,h1,h2⟩:=hr.heap.box b bx hb
 subst hty
 have hf:Fits w (Dc cx B R M V w) ds cs:=G0 hm h2.1 fun j y v hy hv=>(h2.2 j y v hy hv).1
 refine⟨hr.defers,.tuple #[.pointer (some ⟨M b,0,none⟩),.nilIface],?_,M b,cs,rfl,hbl,?_,h1,hf.stay (Keeps.refl _ _) fun g hg=>⟨?_,?_⟩,fun c hc=>?_⟩
 ·have e:results fn a.tmps=(do let vs <- fn.results.mapM (KT a.tmps);pure (if h:vs.size=1 then vs[0]else .tuple vs)):=by
   unfold results
   congr 1
  rw[e,hrs]
  simp[KT,hv1,hv2]
 ·rcases h0 with h | h
  ·exact h
  ·rw[hbor]at h;exact h.elim
 ·rcases hg with hg | ⟨hg,hl,_⟩
  ·exact .inl hg
  ·rcases hg with h | h
   ·exact .inr ⟨h,hl⟩
   ·rw[hbor]at h;exact h.elim
 ·intro e
  rcases hg with hg | ⟨_,_,hg,_⟩
  ·have:=(hr.heap.d0 g hg).1
   rcases h0 with h | h
   ·omega
   ·rw[hbor]at h;exact h
  ·exact hg b bx hb e.symm
 ·obtain⟨j,hj⟩:=List.mem_iff_getElem?.1 hc
  have hjl:j<bx.cs.length:=by
   rw[h2.1]
   rcases Nat.lt_or_ge j cs.length with h | h
   ·exact h
   ·rw[List.getElem?_eq_none h]at hj;cases hj
  exact(h2.2 j _ c (List.getElem?_eq_getElem hjl) hj).2
theorem Z1(hbor:cx.bor=fun _=>False){fn:Func}{s t ty:Nat}{d:Dat}(hrs:fn.results = #[.tmp s,.tmp t])(hs:lk s T=some (.is (.pointer none)))(ht:lk t T=some (.part (.one d))):E cx T B R (bodyPost P fn (QJ cx.w0 cx.D0 ty (.error d)) .ret):=fun M V a w hr=>by
 have hbl:Below cx.w0.heap.size cx.w0 w:=(show Bex (fun _=>False) cx.w0 w from hbor▸hr.heap.below).below
 have hv1:a.tmps.getD s undef=.pointer none:=Lies.cell_eq (hr.tmp s _ hs)
 have hv2:Lies w (Dc cx B R M V w) d (a.tmps.getD t undef):=hr.tmp t _ ht
 refine⟨hr.defers,.tuple #[.pointer none,a.tmps.getD t undef],?_,_,rfl,hbl,hv2.stay (Keeps.refl _ _) fun g hg=>?_⟩
 ·have e:results fn a.tmps=(do let vs <- fn.results.mapM (KT a.tmps);pure (if h:vs.size=1 then vs[0]else .tuple vs)):=by
   unfold results
   congr 1
  rw[e,hrs]
  simp[KT,hv1]
 ·rcases hg with hg | ⟨hg,hl,_⟩
  ·exact .inl hg
  ·rcases hg with h | h
   ·exact .inr ⟨h,hl⟩
   ·rw[hbor]at h;exact h.elim
theorem Rel.newbox{a:Act}{w w':World}(hr:Rel cx T B R M V a w)(hb:Below w.heap.size w w')(b:Nat){g:Nat}{ty:TypeId}{ds:List Dat}{cs:List Value}(hg:w.heap.size<=g)(hblk:Blk w' g ty cs)(hf:Fits w' (fun x=>Dr w (Dc cx B R M V w) w' x/\x≠g) ds cs)(h1:∀ c∈cs,c.oneCell'=true)(hpn:cx.pn.all (fun c => !Nat.beq c b)=true)(hT:OO b T=true)(hB:MM b B=true):
  ∃ M',M' b=g/\Rel cx T ((b,⟨ty,bcs ds⟩)::B) R M' V a w':=by
 have hh:=hr.heap
 have hk:=hh.keeps hb
 refine⟨fun c=>if c=b then g else M c,if_pos rfl,?_⟩
 have hM:∀ c,c≠b->(fun c=>if c=b then g else M c) c=M c:=fun c h=>if_neg h
 have hMb:(fun c=>if c=b then g else M c) b=g:=if_pos rfl
 generalize(fun c=>if c=b then g else M c)=M' at hM hMb ⊢
 have hlt:∀ c x,lk c B=some x->M c<w.heap.size:=fun c x hx=>by
  obtain⟨_,cs,h2,_⟩:=hh.box c x hx
  exact h2.lt
 have hrl:∀ r x k,lk r R=some x->x.fz=false->obs x.ty x.ds (V r) k->k<w.heap.size:=fun r x k hx hf hk=>by
  have h1:=hh.row r x hx
  rw[hf]at h1
  exact Gx.lt h1 k hk
 have hD:∀ k,Dc cx B R M V w k->Dc cx ((b,⟨ty,bcs ds⟩)::B) R M' V w' k:=fun k hgk=>by
  have hgl:=hh.dlt hgk
  rcases hgk with hgk | ⟨a1,a2,a3,a4⟩
  ·exact .inl hgk
  ·refine .inr ⟨a1,by have:=hb.size;omega,fun c x hx=>?_,a4⟩
   rcases AK hx with⟨rfl,_⟩ | ⟨hne,hx⟩
   ·rw[hMb]
    omega
   ·rw[hM c (Ne.symm hne)]
    exact a3 c x hx
 have hDn:∀ k,(Dr w (Dc cx B R M V w) w' k/\k≠g)->Dc cx ((b,⟨ty,bcs ds⟩)::B) R M' V w' k:=fun k ⟨hk1,hk2⟩=>by
  rcases hk1 with h | ⟨h2,h3⟩
  ·exact hD k h
  ·refine .inr ⟨.inl (by have:=hh.below.size;omega),h3,fun c x hx=>?_,fun r x hx hf e=>?_⟩
   ·rcases AK hx with⟨rfl,_⟩ | ⟨hne,hx⟩
    ·rw[hMb]
     exact Ne.symm hk2
    ·rw[hM c (Ne.symm hne)]
     have:=hlt c x hx
     omega
   ·have:=hrl r x k hx hf e
    omega
 refine⟨hr.size,hr.defers,⟨hh.below.step hb,hh.d0,hh.bl,hh.gl,fun c x hx=>?_,fun r x hx=>?_,hh.ro,fun c hc=>?_,fun c e x y hx hy he=>?_,fun c r x y k hx hy hf hgk=>?_,hh.rr⟩,fun t x hx=>?_⟩
 ·rcases AK hx with⟨rfl,rfl⟩ | ⟨hne,hx⟩
  ·rw[hMb]
   refine⟨.inl (by have:=hh.below.size;omega),cs,hblk,by simpa[bcs]using hf.1,fun j y v hy hv=>?_⟩
   simp only[bcs,List.getElem?_map,Option.map_eq_some_iff]at hy
   obtain⟨d,hd,rfl⟩:=hy
   exact⟨(hf.2 j d v hd hv).stay (Keeps.refl _ _) hDn,h1 v (List.mem_of_getElem? hv)⟩
  ·rw[hM c (Ne.symm hne)]
   obtain⟨b1,cs',b2,b3⟩:=hh.box c x hx
   refine⟨b1,cs',b2.kept hb,?_⟩
   exact(b3.newM hM (List.all_eq_true.1 hB _ (FO hx))).stay hk hD
 ·have h1:=hh.row r x hx
  split
  ·rename_i hf
   rw[if_pos hf]at h1
   exact h1.stay hk hD
  ·rename_i hf
   rw[if_neg hf]at h1
   exact Gx.stay h1 (fun k hgk=>hb.block k (Gx.lt h1 k hgk)) hk hD
 ·have h1:=List.all_eq_true.1 hpn c hc
  have hne:c≠b:=fun e=>by
   subst e
   simp at h1
  rw[hM c hne]
  exact hh.pin c hc
 ·rcases AK hx with⟨rfl,rfl⟩ | ⟨hne,hx⟩
  ·rcases AK hy with⟨rfl,rfl⟩ | ⟨hne',hy⟩
   ·rfl
   ·rw[hMb,hM e (Ne.symm hne')]at he
    have:=hlt e y hy
    omega
  ·rcases AK hy with⟨rfl,rfl⟩ | ⟨hne',hy⟩
   ·rw[hMb,hM c (Ne.symm hne)]at he
    have:=hlt c x hx
    omega
   ·rw[hM c (Ne.symm hne),hM e (Ne.symm hne')]at he
    exact hh.bb c e x y hx hy he
 ·rcases AK hx with⟨rfl,rfl⟩ | ⟨hne,hx⟩
  ·rw[hMb]
   have:=hrl r y k hy hf hgk
   omega
  ·rw[hM c (Ne.symm hne)]
   exact hh.br c r x y k hx hy hf hgk
 ·exact((hr.tmp t x hx).newM hM (List.all_eq_true.1 hT _ (FO hx))).stay hk hD
theorem SX(b:Nat){o1 o2 o3 o4:Oper}{d1 d2 d3 d4:Nat}{f:FuncId}{xs:List Operand}{ts:Array TypeId}{ps:List Part}{ty:TypeId}{r:Except Dat (List Dat)}
  (g1:o1.guard=none) (e1:o1.dst=some d1) (n1:Nat.blt d1 cx.n=true) (p1:o1.op=.call { callee:=.value (.func f),args:=xs.toArray,argTypes:=ts }) (hc:BU P f=true) (hx:KnA T xs ps) (hf:EBx P cx.gl f ps ty r)
  (g2:o2.guard=none) (e2:o2.dst=some d2) (n2:Nat.blt d2 cx.n=true) (p2:o2.op=.move (.tmp d1)) (g3:o3.guard=none) (e3:o3.dst=some d3) (n3:Nat.blt d3 cx.n=true) (p3:o3.op=.extract (.tmp d2) 0) (g4:o4.guard=none) (e4:o4.dst=some d4) (n4:Nat.blt d4 cx.n=true) (p4:o4.op=.extract (.tmp d2) 1)
  (h32:Nat.beq d3 d2=false) (hpn:cx.pn.all (fun c => !Nat.beq c b)=true) (hT:OO b T=true) (hB:MM b B=true)
  (hE1:∀ ds,r=.ok ds->E cx ((d4,.is .nilIface)::(d3,.box b 0)::(d2,.junk)::(d1,.junk)::T) ((b,⟨ty,bcs ds⟩)::B) R (wpList P ops Q l))
  (hE2:∀ d,r=.error d->E cx ((d4,.part (.one d))::(d3,.is (.pointer none))::(d2,.junk)::(d1,.junk)::T) B R (wpList P ops Q l)):E cx T B R (wpList P ops Q (o1::o2::o3::o4::l)):=fun M V a w hrel=>by
 have h32':d3≠d2:=fun e=>by rw[e]at h32;simp at h32
 refine wpList_plain g1 fun K hK=>?_
 have hrun:(execOp a.eval o1).run P w=.ok (.enter f (xs.map a.eval).toArray) w:=by
  have he:a.eval (.func f)=.func (.func f) #[] #[]:=rfl
  simp[execOp,p1,resolve,he,Deferred.ofValue,invoke,C2 hc]
 unfold Oper.wp
 rw[hrun]
 simp only[Oper.upon,e1]
 have go:∀ (u1 u2:Value) (w':World) (y1 y2:IV) (M':Nat->Nat) (B':BL) (_:Rel cx T B' R M' V a w') (_:VR w' (Dc cx B' R M' V w') M' V y1 u1) (_:VR w' (Dc cx B' R M' V w') M' V y2 u2) (_:E cx ((d4,y2)::(d3,y1)::(d2,.junk)::(d1,.junk)::T) B' R (wpList P ops Q l)),wpList P ops Q (o2::o3::o4::l) (a.put (some d1) (.tuple #[u1,u2])) w':=by
  intro u1 u2 w' y1 y2 M' B' hr0 hy1 hy2 hE
  have hr1:Rel cx ((d1,.junk)::T) B' R M' V (a.put (some d1) (.tuple #[u1,u2])) w':=hr0.put (Below.refl _ _) (C0 n1) trivial
  have v1:(a.put (some d1) (.tuple #[u1,u2])).eval (.tmp d1)=.tuple #[u1,u2]:=by rw[QD (by rw[hr0.size];exact C0 n1),if_pos rfl]
  generalize a.put (some d1) (.tuple #[u1,u2])=a1 at hr1 v1 ⊢
  refine wpList_plain g2 fun K hK=>?_
  have hrun2:(execOp a1.eval o2).run P w'=.ok (.value (.tuple #[u1,u2])) w':=by simp[execOp,p2,v1]
  unfold Oper.wp
  rw[hrun2]
  simp only[Oper.upon,e2]
  refine hK _ _ ?_
  have hr2:Rel cx ((d2,.junk)::(d1,.junk)::T) B' R M' V (a1.put (some d2) (.tuple #[u1,u2])) w':=hr1.put (Below.refl _ _) (C0 n2) trivial
  have v2:(a1.put (some d2) (.tuple #[u1,u2])).eval (.tmp d2)=.tuple #[u1,u2]:=by rw[QD (by rw[hr1.size];exact C0 n2),if_pos rfl]
  generalize a1.put (some d2) (.tuple #[u1,u2])=a2 at hr2 v2 ⊢
  refine wpList_plain g3 fun K hK=>?_
  have hrun3:(execOp a2.eval o3).run P w'=.ok (.value u1) w':=by simp[execOp,p3,v2,Instr.extract]
  unfold Oper.wp
  rw[hrun3]
  simp only[Oper.upon,e3]
  refine hK _ _ ?_
  have hr3:=hr2.put (Below.refl _ _) (C0 n3) hy1
  have v3:(a2.put (some d3) u1).eval (.tmp d2)=.tuple #[u1,u2]:=by rw[QD (by rw[hr2.size];exact C0 n3),if_neg h32'];exact v2
  generalize a2.put (some d3) u1=a3 at hr3 v3 ⊢
  refine wpList_plain g4 fun K hK=>?_
  have hrun4:(execOp a3.eval o4).run P w'=.ok (.value u2) w':=by simp[execOp,p4,v3,Instr.extract]
  unfold Oper.wp
  rw[hrun4]
  simp only[Oper.upon,e4]
  exact hK _ _ (hE M' V _ _ (hr3.put (Below.refl _ _) (C0 n4) hy2))
 refine(hf w (Dc cx B R M V w) _ (fun g hg=>hrel.heap.dlt hg) hrel.heap.glok (hx.fit fun x z _ hkx=>hkx w _ M V a fun t z' _ hz=>hrel.tmp t z' hz)).mono ?_
 intro e w' hgive
 cases r with
 | ok ds=>
  obtain⟨g,cs,rfl,hb,hg,hblk,hfit,hone⟩:=hgive
  refine hK _ _ ?_
  obtain⟨M',hMb,hr0⟩:=hrel.newbox hb b hg hblk hfit hone hpn hT hB
  exact go _ _ w' (.box b 0) (.is .nilIface) M' _ hr0 (by show _=Value.pointer (some ⟨M' b,0,none⟩);rw[hMb]) (Lies.cell _) (hE1 ds rfl)
 | error d=>
  obtain⟨v,rfl,hb,hl⟩:=hgive
  refine hK _ _ ?_
  have hr0:Rel cx T B R M V a w':=⟨hrel.size,hrel.defers,hrel.heap.step hb,fun t x hx=>(hrel.tmp t x hx).stay (hrel.heap.keeps hb) fun g hg=>hg.mono hb.size⟩
  exact go _ _ w' (.is (.pointer none)) (.part (.one d)) M B hr0 (Lies.cell _) (hl.stay (Keeps.refl _ _) fun g hg=>hrel.heap.new hg hb.size) (hE2 d rfl)
theorem Imp.ref_pref(ds:List Dat):Imp (.ref ds) (.part (.one (.pref ds))):=fun w D M V v h=>by
 obtain⟨b,o,rfl,hb,xs,hf,hc⟩:=h
 refine .pref b o ds (fun j=>xs.getD j undef) hb (fun j hj=>?_) (fun j d hd=>?_)
 ·have hx:xs[j]?=some (xs.getD j undef):=by
   rw[List.getD_eq_getElem?_getD,List.getElem?_eq_getElem (by rw[<- hf.1];exact hj)]
   rfl
  exact hc j _ hx
 ·have hj:j<xs.length:=by
   rw[<- hf.1]
   rcases Nat.lt_or_ge j ds.length with h | h
   ·exact h
   ·rw[List.getElem?_eq_none h]at hd;cases hd
  have hx:xs[j]?=some (xs.getD j undef):=by
   rw[List.getD_eq_getElem?_getD,List.getElem?_eq_getElem hj]
   rfl
  exact hf.2 j d _ hd hx
theorem Imp.pref_ref(ds:List Dat):Imp (.part (.one (.pref ds))) (.ref ds):=fun w D M V v h=>by
 have h':Lies w D (.pref ds) v:=h
 cases h' with
 | pref b o ds X hb hc hX=>
  refine⟨b,o,rfl,hb,(List.range ds.length).map X,⟨by simp,fun j d x hd hx=>?_⟩,fun j x hx=>?_⟩
  ·rw[List.getElem?_map,Option.map_eq_some_iff]at hx
   obtain⟨i,hi,rfl⟩:=hx
   have hj:j<ds.length:=by
    rcases Nat.lt_or_ge j ds.length with h | h
    ·exact h
    ·rw[List.getElem?_eq_none h]at hd;cases hd
   rw[List.getElem?_range hj]at hi
   obtain rfl:j=i:=by simpa using hi
   exact hX j d hd
  ·rw[List.getElem?_map,Option.map_eq_some_iff]at hx
   obtain⟨i,hi,rfl⟩:=hx
   have hj:j<ds.length:=by
    rcases Nat.lt_or_ge j ds.length with h | h
    ·exact h
    ·rw[List.getElem?_eq_none (by simpa using h)]at hi;cases hi
   rw[List.getElem?_range hj]at hi
   obtain rfl:j=i:=by simpa using hi
   exact hc j hj
theorem MP{f:FuncId}{x:Operand}{xs:List Operand}{ts:Array TypeId}{caps:List Dat}{ps:List Part}{y:IV}(ho:o.op=.call { callee:=.value x,args:=xs.toArray,argTypes:=ts })(hc:BU P f=true)(hxf:Kn T x (.part (.one (.fn f caps))))(hf:EF P cx.gl f (ps++caps.map Part.one) y)(hx:KnA T xs ps):LStep P cx B R o T y:=fun M V w a hh ht=>by
 have hkk:∀ y z,y∈x::xs->Kn T y z->VR w (Dc cx B R M V w) M V z (a.eval y):=fun y z hm hkx=>hkx w _ M V a fun t z' e hz=>ht t z' (by
  subst e
  rw[ho]
  simpa[Op.operands,Call.operands]using hm) hz
 have h0:Lies w (Dc cx B R M V w) (.fn f caps) (a.eval x):=hkk x _ (by simp) hxf
 obtain⟨cs,h1,h2⟩:=Q1v h0
 have hrun:(execOp a.eval o).run P w=.ok (.enter f (xs.map a.eval++cs).toArray) w:=by simp[execOp,ho,resolve,h1,Deferred.ofValue,invoke,C2 hc]
 rw[hrun]
 have happ:∀ (ps:List Part) (us:List Value) (caps:List Dat) (cs:List Value),PsFit w (Dc cx B R M V w) ps us->Fits w (Dc cx B R M V w) caps cs->PsFit w (Dc cx B R M V w) (ps++caps.map Part.one) (us++cs):=by
  intro ps
  induction ps with
  | nil=>
   intro us caps cs hp hf
   cases us with
   | cons u us=>exact hp.elim
   | nil=>
    show PsFit w (Dc cx B R M V w) (caps.map Part.one) cs
    clear hp
    induction caps generalizing cs with
    | nil=>
     cases cs with
     | nil=>trivial
     | cons c cs=>exact absurd hf.1 (by simp)
    | cons d caps ih=>
     cases cs with
     | nil=>exact absurd hf.1 (by simp)
     | cons c cs=>exact⟨hf.2 0 d c rfl rfl,ih cs ⟨by simpa using hf.1,fun j e u he hu=>hf.2 (j+1) e u (by simpa using he) (by simpa using hu)⟩⟩
  | cons p ps ih=>
   intro us caps cs hp hf
   cases us with
   | nil=>exact hp.elim
   | cons u us=>exact⟨hp.1,ih us caps cs hp.2 hf⟩
 have hp:=happ ps (xs.map a.eval) caps cs (hx.fit fun x z hm hkx=>hkk x z (by simp[hm]) hkx) h2
 refine⟨rfl,(hf w (Dc cx B R M V w) _ (fun g hg=>hh.dlt hg) hh.glok hp).mono fun e w'' ⟨v,y0,g1,g2,g3,g4⟩=>?_⟩
 subst g2
 exact⟨v,g1,g3,(g4 M V).stay (Keeps.refl _ _) fun g hg=>hh.new hg g3.size⟩
end
end
section
open Go Go.Lib
abbrev Tk:=Tok×Nat×Nat
structure Fld where
 name:List UInt8
 type:List UInt8
 mapKey:List UInt8
 key:List UInt8
 label:Int
 number:Int
 packed:Int
 oneof:Int
 line:Int
 col:Int
structure Val where
 name:List UInt8
 number:Int
 line:Int
 col:Int
structure Enm where
 name:List UInt8
 vals:List Val
 line:Int
 col:Int
inductive Msg where
 | mk (name:List UInt8) (fields:List Fld) (oneofs:List (List UInt8)) (msgs:List Msg) (enums:List Enm) (reserved:List (Int×Int)) (names:List (List UInt8)) (line col:Int)
structure Fil where
 package:List UInt8
 msgs:List Msg
 enums:List Enm
abbrev AZ(α:Type):=Except (Nat×Nat) α
def D1{α:Type}(p:Nat):AZ α:=.error (p,9)
def tkIs(l:List Tk)(p k:Nat)(t:List UInt8):Bool:=
 match l[p]? with
 | none=>false
 | some x=>decide (x.1.k=k)&&(decide (t=[])||decide (x.1.t=t))
def BK(l:List Tk)(k:Nat)(t:List UInt8)(p:Nat):AZ Nat:=if tkIs l p k t then .ok (p+1)else D1 p
def DF(l:List Tk)(p:Nat):AZ (Tk×Nat):=
 match l[p]? with
 | none=>D1 p
 | some x=>if x.1.k=1 then .ok (x,p+1)else D1 p
def D9(l:List Tk)(p:Nat):AZ (Int×Nat):=
 match l[p]? with
 | none=>D1 p
 | some x=>if x.1.k=2 then .ok ((x.1.n:Int),p+1)else D1 p
def E3(l:List Tk):Nat->List UInt8->Nat->AZ (List UInt8×Nat)
 | 0,_,p=>D1 p
 | n+1,s,p=>
  match DF l p with
  | .error e=>.error e
  | .ok (x,q)=>if tkIs l q 4 [46]then E3 l n (s++x.1.t++[46]) (q+1)else .ok (s++x.1.t,q)
def CX(l:List Tk)(typ:Bool)(p:Nat):AZ (List UInt8×Nat):=
 if typ&&tkIs l p 4 [46]then E3 l (l.length+1) [46] (p+1)else E3 l (l.length+1) [] p
def CW(l:List Tk)(f:Fld)(p:Nat):AZ (Fld×Nat):=
 if tkIs l p 1 [112,97,99,107,101,100]&&decide (f.packed=0)then
  match BK l 4 [61] (p+1)with
  | .error e=>.error e
  | .ok q=>
   if tkIs l q 1 [116,114,117,101]then .ok ({ f with packed:=1 },q+1)
   else if tkIs l q 1 [102,97,108,115,101]then .ok ({ f with packed:=2 },q+1)
   else D1 q
 else if tkIs l p 1 [107,101,121]&&decide (f.key=[])then
  match BK l 4 [61] (p+1)with
  | .error e=>.error e
  | .ok q=>
   match DF l q with
   | .error e=>.error e
   | .ok (x,r)=>.ok ({ f with key:=x.1.t },r)
 else D1 p
def KL(l:List Tk):Nat->Fld->Nat->AZ (Fld×Nat)
 | 0,_,p=>D1 p
 | n+1,f,p=>
  match CW l f (p+1)with
  | .error e=>.error e
  | .ok (g,q)=>
   if tkIs l q 4 [44]then KL l n g q
   else
    match BK l 4 [93] q with
    | .error e=>.error e
    | .ok r=>
     match BK l 4 [59] r with
     | .error e=>.error e
     | .ok s=>.ok (g,s)
def E0(l:List Tk)(f:Fld)(p:Nat):AZ (Fld×Nat):=
 if tkIs l p 4 [91]then KL l (l.length+1) f p
 else
  match BK l 4 [59] p with
  | .error e=>.error e
  | .ok s=>.ok (f,s)
def H6(l:List Tk)(f:Fld)(p:Nat):AZ (Fld×Nat):=
 match DF l p with
 | .error e=>.error e
 | .ok (x,q)=>
  match BK l 4 [61] q with
  | .error e=>.error e
  | .ok r=>
   match D9 l r with
   | .error e=>.error e
   | .ok (n,s)=>E0 l { f with name:=x.1.t,line:=x.2.1,col:=x.2.2,number:=n } s
def T6(label oneof:Int):Fld:=⟨[],[],[],[],label,0,0,oneof,0,0⟩
def FN(l:List Tk)(p:Nat)(label oneof:Int):AZ (Fld×Nat):=
 match CX l true p with
 | .error e=>.error e
 | .ok (s,q)=>H6 l { T6 label oneof with type:=s } q
def DS(l:List Tk)(p:Nat):AZ (Fld×Nat):=
 match BK l 4 [60] p with
 | .error e=>.error e
 | .ok q=>
  match DF l q with
  | .error e=>.error e
  | .ok (x,r)=>
   match BK l 4 [44] r with
   | .error e=>.error e
   | .ok s=>
    match CX l true s with
    | .error e=>.error e
    | .ok (t,u)=>
     match BK l 4 [62] u with
     | .error e=>.error e
     | .ok v=>H6 l { T6 4 0 with mapKey:=x.1.t,type:=t } v
def LW(l:List Tk):Nat->Nat->Nat
 | 0,p=>p
 | n+1,p=>if tkIs l p 4 [59]then LW l n (p+1)else p
def J1(l:List Tk)(p:Nat):Nat:=LW l (l.length-p) p
def KM(l:List Tk)(p:Nat):AZ (Tk×Nat):=
 match DF l p with
 | .error e=>.error e
 | .ok (x,q)=>
  match BK l 4 [123] q with
  | .error e=>.error e
  | .ok r=>.ok (x,r)
def EA(l:List Tk)(p:Nat):AZ (Val×Nat):=
 match DF l p with
 | .error e=>.error e
 | .ok (x,q)=>
  match BK l 4 [61] q with
  | .error e=>.error e
  | .ok r=>
   if tkIs l r 4 [45]then
    match D9 l (r+1)with
    | .error e=>.error e
    | .ok (n,s)=>
     match BK l 4 [59] s with
     | .error e=>.error e
     | .ok t=>.ok (⟨x.1.t,-n,x.2.1,x.2.2⟩,t)
   else
    match D9 l r with
    | .error e=>.error e
    | .ok (n,s)=>
     match BK l 4 [59] s with
     | .error e=>.error e
     | .ok t=>.ok (⟨x.1.t,n,x.2.1,x.2.2⟩,t)
def HH(l:List Tk):Nat->List Val->Nat->AZ (List Val×Nat)
 | 0,_,p=>D1 p
 | n+1,vs,p0=>
  let p:=J1 l p0
  if tkIs l p 4 [125]then(if vs=[]then D1 p else .ok (vs,p+1))
  else
   match EA l p with
   | .error e=>.error e
   | .ok (v,q)=>HH l n (vs++[v]) q
def FK(l:List Tk)(p:Nat):AZ (Enm×Nat):=
 match KM l p with
 | .error e=>.error e
 | .ok (x,q)=>
  match HH l (l.length+1) [] q with
  | .error e=>.error e
  | .ok (vs,r)=>.ok (⟨x.1.t,vs,x.2.1,x.2.2⟩,r)
def GL(l:List Tk)(which:Int):Nat->List Fld->Nat->AZ (List Fld×Nat)
 | 0,_,p=>D1 p
 | n+1,fs,p0=>
  let p:=J1 l p0
  if tkIs l p 4 [125]then(if fs=[]then D1 p else .ok (fs,p+1))
  else
   match FN l p 1 which with
   | .error e=>.error e
   | .ok (f,q)=>GL l which n (fs++[f]) q
def G1(l:List Tk)(p:Nat)(which:Int):AZ ((List UInt8×List Fld)×Nat):=
 match KM l p with
 | .error e=>.error e
 | .ok (x,q)=>
  match GL l which (l.length+1) [] q with
  | .error e=>.error e
  | .ok (fs,r)=>.ok ((x.1.t,fs),r)
def H7(l:List Tk)(p:Nat):AZ ((Int×Int)×Nat):=
 match D9 l p with
 | .error e=>.error e
 | .ok (n,q)=>
  if tkIs l q 1 [116,111]then
   if tkIs l (q+1) 1 [109,97,120]then .ok ((n,536870911),q+2)
   else
    match D9 l (q+1)with
    | .error e=>.error e
    | .ok (m,r)=>.ok ((n,m),r)
  else .ok ((n,n),q)
def F0(l:List Tk):Nat->List (Int×Int)->Nat->AZ (List (Int×Int)×Nat)
 | 0,_,p=>D1 p
 | n+1,rs,p=>
  match H7 l p with
  | .error e=>.error e
  | .ok (x,q)=>
   if tkIs l q 4 [44]then F0 l n (rs++[x]) (q+1)
   else
    match BK l 4 [59] q with
    | .error e=>.error e
    | .ok r=>.ok (rs++[x],r)
def I1(l:List Tk)(p:Nat):AZ (List UInt8×Nat):=
 match l[p]? with
 | none=>D1 p
 | some x=>if x.1.k=3 then .ok (x.1.t,p+1)else D1 p
def GJ(l:List Tk):Nat->List (List UInt8)->Nat->AZ (List (List UInt8)×Nat)
 | 0,_,p=>D1 p
 | n+1,ts,p=>
  match I1 l p with
  | .error e=>.error e
  | .ok (x,q)=>
   if tkIs l q 4 [44]then GJ l n (ts++[x]) (q+1)
   else
    match BK l 4 [59] q with
    | .error e=>.error e
    | .ok r=>.ok (ts++[x],r)
def LP(l:List Tk)(p:Nat):Bool:=
 match l[p]? with
 | none=>false
 | some x=>decide (x.1.k=3)
def DJ(l:List Tk)(p:Nat):AZ ((List (Int×Int)×List (List UInt8))×Nat):=
 if LP l p then
  match GJ l (l.length+1) [] p with
  | .error e=>.error e
  | .ok (ts,q)=>.ok (([],ts),q)
 else
  match F0 l (l.length+1) [] p with
  | .error e=>.error e
  | .ok (rs,q)=>.ok ((rs,[]),q)
def S5(l:List Tk)(p:Nat):List UInt8:=
 match l[p]? with
 | none=>[]
 | some x=>if x.1.k=1 then x.1.t else[]
def Msg.oneofs:Msg->List (List UInt8)
 | .mk _ _ os _ _ _ _ _ _=>os
def Msg.addMsg:Msg->Msg->Msg
 | .mk n f o m e r s l c,k=>.mk n f o (m++[k]) e r s l c
def Msg.addEnum:Msg->Enm->Msg
 | .mk n f o m e r s l c,k=>.mk n f o m (e++[k]) r s l c
def Msg.addOneof:Msg->List UInt8×List Fld->Msg
 | .mk n f o m e r s l c,k=>.mk n (f++k.2) (o++[k.1]) m e r s l c
def Msg.addReserved:Msg->List (Int×Int)×List (List UInt8)->Msg
 | .mk n f o m e r s l c,k=>.mk n f o m e (r++k.1) (s++k.2) l c
def Msg.addField:Msg->Fld->Msg
 | .mk n f o m e r s l c,k=>.mk n (f++[k]) o m e r s l c
def CN(l:List Tk)(sub:Nat->AZ (Msg×Nat))(m:Msg)(p:Nat):AZ (Msg×Nat):=
 let word:=S5 l p
 if word=[109,101,115,115,97,103,101]then
  match sub (p+1)with
  | .error e=>.error e
  | .ok (k,q)=>.ok (m.addMsg k,q)
 else if word=[101,110,117,109]then
  match FK l (p+1)with
  | .error e=>.error e
  | .ok (k,q)=>.ok (m.addEnum k,q)
 else if word=[111,110,101,111,102]then
  match G1 l (p+1) ((m.oneofs.length:Int)+1)with
  | .error e=>.error e
  | .ok (k,q)=>.ok (m.addOneof k,q)
 else if word=[114,101,115,101,114,118,101,100]then
  match DJ l (p+1)with
  | .error e=>.error e
  | .ok (k,q)=>.ok (m.addReserved k,q)
 else
  match (if word=[114,101,112,101,97,116,101,100]then FN l (p+1) 3 0
   else if word=[111,112,116,105,111,110,97,108]then FN l (p+1) 2 0
   else if decide (word=[109,97,112])&&tkIs l (p+1) 4 [60]then DS l (p+1)
   else FN l p 1 0)with
  | .error e=>.error e
  | .ok (k,q)=>.ok (m.addField k,q)
def ET(l:List Tk)(sub:Nat->AZ (Msg×Nat)):Nat->Msg->Nat->AZ (Msg×Nat)
 | 0,_,p=>D1 p
 | n+1,m,p0=>
  let p:=J1 l p0
  if tkIs l p 4 [125]then .ok (m,p+1)
  else
   match CN l sub m p with
   | .error e=>.error e
   | .ok (m',q)=>ET l sub n m' q
def BE(l:List Tk):Nat->Nat->AZ (Msg×Nat)
 | 0,p=>
  match DF l p with
  | .error e=>.error e
  | .ok _=>.error (p,8)
 | d+1,p=>
  match DF l p with
  | .error e=>.error e
  | .ok (x,q)=>
   match BK l 4 [123] q with
   | .error e=>.error e
   | .ok r=>ET l (BE l d) (l.length+1) (.mk x.1.t [] [] [] [] [] [] x.2.1 x.2.2) r
def DW(l:List Tk):Nat->Fil->Nat->AZ Fil
 | 0,_,p=>D1 p
 | n+1,f,p=>
  if p<l.length then
   if tkIs l p 4 [59]then DW l n f (p+1)
   else if tkIs l p 1 [109,101,115,115,97,103,101]then
    match BE l 8 (p+1)with
    | .error e=>.error e
    | .ok (m,q)=>DW l n { f with msgs:=f.msgs++[m] } q
   else if tkIs l p 1 [101,110,117,109]then
    match FK l (p+1)with
    | .error e=>.error e
    | .ok (k,q)=>DW l n { f with enums:=f.enums++[k] } q
   else D1 p
  else .ok f
def DI(l:List Tk)(p:Nat):AZ (List UInt8×Nat):=
 if tkIs l p 1 [112,97,99,107,97,103,101]then
  match CX l false (p+1)with
  | .error e=>.error e
  | .ok (s,q)=>
   match BK l 4 [59] q with
   | .error e=>.error e
   | .ok r=>.ok (s,r)
 else .ok ([],p)
def FT(l:List Tk):AZ Fil:=
 match BK l 1 [115,121,110,116,97,120] 0 with
 | .error e=>.error e
 | .ok p=>
  match BK l 4 [61] p with
  | .error e=>.error e
  | .ok q=>
   match I1 l q with
   | .error e=>.error e
   | .ok (t,r)=>
    if t=[112,114,111,116,111,51]then
     match BK l 4 [59] r with
     | .error e=>.error e
     | .ok s=>
      match DI l s with
      | .error e=>.error e
      | .ok (pk,u)=>DW l (l.length+1) ⟨pk,[],[]⟩ u
    else D1 q
end
end Go.Proofs.YtgcphgdkddihcaaGreatDoor
