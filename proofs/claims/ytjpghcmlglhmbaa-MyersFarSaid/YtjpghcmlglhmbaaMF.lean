/- MyersFar: for every row of numbers and every number the law returns true, and its arguments read behind the call as before. No condition. -/
import Derived.Test.YtjpghcmlglhmbaaMF16
import Derived.Test.YtjpghcmlglhmbaaRows
set_option maxRecDepth 100000
namespace Go.Proofs.Ytjpghcmlglhmbaa
open Go.RowKit
end Go.Proofs.Ytjpghcmlglhmbaa
namespace Go.Proofs.Ytjpghcmlglhmbaa.mfar
open Go Go.ChangeShapes Go.WideShapes Go.ChangeAt Go.WideMaps Go.WideElems Go.RowKit
theorem own:ownKnob Try.prog.godebug=none:=by kernel_rfl
theorem M5:laidOutB Try.prog=true:=by kernel_rfl
theorem JM:(Try.f4.params.toList.all fun t=>Try.prog.readableRec t&&decide (t<Try.prog.types.size))=true:=by kernel_rfl
set_option maxRecDepth 100000 in
theorem KP(H:Type)(enc:TypeId×Value->H)(W:World)(base:Nat)(args:Array Value)(ds gs:List (DataW H))(before:List MemPlace)
  (hval:∀ (j:Nat) t v,Try.f4.params[j]?=some t->args[j]?=some v->Value.okWide Try.prog W .any base t v)
  (hW:DataW.Whole enc Try.prog Try.f4.params.toList Rows.myersFarSpec.vars false W args.toList ds gs before):
  Calls Try.prog 4 args W fun e W'=>∃ v,e=.returned v/\Rows.myersFarSpec.post enc Try.prog Try.f4 false true false false W args v W':=by
 have hW':=hW
 obtain⟨p,q,hA0,hV,rfl,hfz,hnd⟩:=hW
 have hA:DataW.TrodAll enc Try.prog W 0 (fun _=>true) true Try.f4.params.toList args.toList ds p:=hA0
 have hA1:=hA
 rw[Try.params4]at hA hval
 obtain⟨v0,v1,d0,d1,p0,p1,rfl,rfl,rfl,h0,h1⟩:=trodAll_two hA
 obtain⟨rfl,rfl⟩:=trodVars_none hV
 obtain⟨a0,l0,c0,rfl,hI0⟩:=LJ (hval 0 22 v0 rfl rfl) h0
 obtain⟨x1,rfl,rfl,rfl,wx1⟩:=open_int Try.underlying3 (hval 1 3 v1 rfl rfl) h1
 obtain⟨lo1,hi1⟩:=MU wx1
 clear hA0 hA
 simp only[List.append_nil]at hW' hA1
 refine(J6 (ND l0 x1) (vs:=[.slice a0 l0.length c0,.int .i64 x1]) ⟨hI0,.cell _,trivial⟩).mono fun e W' ⟨he,hb⟩=>?_
 exact⟨_,he,JZ M5 JM rfl rfl rfl Try.underlying4 hW' hA1 hb⟩
set_option maxRecDepth 100000 in
theorem MT(os:Os)(started:os.Started)(H:Type)(enc:TypeId×Value->H):
  ReturnsInHanded {} Try.checked os 4 .any (Rows.myersFarSpec.pre6 enc Try.prog Try.f4 Rows.myersFarRow.domain false) (Rows.myersFarSpec.post enc Try.prog Try.f4 false true false false):=by
 refine returnsInHanded_of_change (C:=Try.checked) own started (by kernel_rfl) Try.func4
  (ChangeSpec.witness6 (enc:=enc) (C:=Try.checked) false ⟨#[],#[.slice none 0 0,.int .i64 0],[]⟩ 8 (by kernel_rfl) (by kernel_rfl) (by kernel_rfl) (by kernel_rfl)) ?_
 intro W base args ds gs before hval hW _ _
 exact KP H enc W base args ds gs before hval hW
theorem said:Rows.MyersFarSaid:=
 OpenClaim.holds_of_wide 4 Try.f4 rfl rfl rfl rfl rfl rfl rfl ⟨rfl,rfl,rfl,rfl,rfl⟩ rfl rfl rfl rfl rfl (by kernel_rfl) Try.func4 (by kernel_rfl)
  (of_decide_eq_true (by kernel_rfl)) (by unfold Func.isWrapper;first | (rw[if_pos (by decide +kernel)];kernel_rfl) | (rw[if_neg (by decide +kernel)];exact⟨rfl,rfl⟩))
  (fun os started H enc _=>MT os started H enc)
#print axioms said
end Go.Proofs.Ytjpghcmlglhmbaa.mfar
namespace Go.Proofs.Ytjpghcmlglhmbaa
open Go.RowKit
end Go.Proofs.Ytjpghcmlglhmbaa
