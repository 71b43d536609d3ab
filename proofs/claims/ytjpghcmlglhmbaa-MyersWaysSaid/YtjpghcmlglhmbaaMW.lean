/- MyersWays: for all runs and every two rows of numbers the law returns true, and its arguments read behind the call as before. No condition. -/
import Derived.Test.YtjpghcmlglhmbaaMW16
import Derived.Test.YtjpghcmlglhmbaaRows
set_option maxRecDepth 100000
namespace Go.Proofs.Ytjpghcmlglhmbaa
open Go.RowKit
end Go.Proofs.Ytjpghcmlglhmbaa
namespace Go.Proofs.Ytjpghcmlglhmbaa.mways
open Go Go.ChangeShapes Go.WideShapes Go.ChangeAt Go.WideMaps Go.WideElems Go.RowKit
theorem own:ownKnob Try.prog.godebug=none:=by kernel_rfl
theorem M9:laidOutB Try.prog=true:=by kernel_rfl
theorem K9:(Try.f5.params.toList.all fun t=>Try.prog.readableRec t&&decide (t<Try.prog.types.size))=true:=by kernel_rfl
set_option maxRecDepth 100000 in
theorem K1(H:Type)(enc:TypeId×Value->H)(W:World)(base:Nat)(args:Array Value)(ds gs:List (DataW H))(before:List MemPlace)
  (hval:∀ (j:Nat) t v,Try.f5.params[j]?=some t->args[j]?=some v->Value.okWide Try.prog W .any base t v)
  (hW:DataW.Whole enc Try.prog Try.f5.params.toList Rows.myersWaysSpec.vars false W args.toList ds gs before) (hz:(DataW.weightsEach Try.prog (Try.f5.params.toList++Rows.myersWaysSpec.plain.varTypes Try.prog) (ds++gs)).all (· <= reachBytes)=true):
  Calls Try.prog 5 args W fun e W'=>∃ v,e=.returned v/\Rows.myersWaysSpec.post enc Try.prog Try.f5 false true false false W args v W':=by
 have hW':=hW
 obtain⟨p,q,hA0,hV,rfl,hfz,hnd⟩:=hW
 have hA:DataW.TrodAll enc Try.prog W 0 (fun _=>true) true Try.f5.params.toList args.toList ds p:=hA0
 have hA1:=hA
 rw[Try.params5]at hA hval
 obtain⟨v0,v1,v2,d0,d1,d2,p0,p1,p2,rfl,rfl,rfl,h0,h1,h2⟩:=trodAll_three hA
 obtain⟨rfl,rfl⟩:=trodVars_none hV
 obtain⟨a0,l0,c0,rfl,hI0,hm0⟩:=KG (hval 0 28 v0 rfl rfl) h0 (KN hz (j:=0) rfl rfl)
 obtain⟨a1,l1,c1,rfl,hI1⟩:=J5 (hval 1 22 v1 rfl rfl) h1
 obtain⟨a2,l2,c2,rfl,hI2⟩:=J5 (hval 2 22 v2 rfl rfl) h2
 clear hA0 hA
 simp only[List.append_nil]at hW' hA1
 refine(JL (LG l0 l1 l2 hm0) (vs:=[.slice a0 l0.length c0,.slice a1 l1.length c1,.slice a2 l2.length c2]) ⟨hI0,hI1,hI2,trivial⟩).mono fun e W' ⟨he,hb⟩=>?_
 exact⟨_,he,JR M9 K9 rfl rfl rfl Try.underlying4 hW' hA1 hb⟩
set_option maxRecDepth 100000 in
theorem MZ(os:Os)(started:os.Started)(H:Type)(enc:TypeId×Value->H):
  ReturnsInHanded {} Try.checked os 5 .any (Rows.myersWaysSpec.pre6 enc Try.prog Try.f5 Rows.myersWaysRow.domain false) (Rows.myersWaysSpec.post enc Try.prog Try.f5 false true false false):=by
 refine returnsInHanded_of_change_sized (C:=Try.checked) own started (by kernel_rfl) Try.func5
  (ChangeSpec.witness6 (enc:=enc) (C:=Try.checked) false ⟨#[],#[.slice none 0 0,.slice none 0 0,.slice none 0 0],[]⟩ 8 (by kernel_rfl) (by kernel_rfl) (by kernel_rfl) (by kernel_rfl)) ?_
 intro W base args ds gs before hval hW _ hz _
 exact K1 H enc W base args ds gs before hval hW hz
theorem said:Rows.MyersWaysSaid:=
 OpenClaim.holds_of_wide 5 Try.f5 rfl rfl rfl rfl rfl rfl rfl ⟨rfl,rfl,rfl,rfl,rfl⟩ rfl rfl rfl rfl rfl (by kernel_rfl) Try.func5 (by kernel_rfl)
  (of_decide_eq_true (by kernel_rfl)) (by unfold Func.isWrapper;first | (rw[if_pos (by decide +kernel)];kernel_rfl) | (rw[if_neg (by decide +kernel)];exact⟨rfl,rfl⟩))
  (fun os started H enc _=>MZ os started H enc)
#print axioms said
end Go.Proofs.Ytjpghcmlglhmbaa.mways
namespace Go.Proofs.Ytjpghcmlglhmbaa
open Go.RowKit
end Go.Proofs.Ytjpghcmlglhmbaa
