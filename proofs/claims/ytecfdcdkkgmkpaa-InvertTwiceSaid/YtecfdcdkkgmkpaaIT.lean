/- InvertTwice: for every edit the law returns true, and its argument reads behind the call as before. No condition. -/
import Derived.Test.YtecfdcdkkgmkpaaIT25
import Derived.Test.YtecfdcdkkgmkpaaRows
set_option maxRecDepth 100000
namespace Go.Proofs.Ytecfdcdkkgmkpaa
open Go.RowKit
end Go.Proofs.Ytecfdcdkkgmkpaa
namespace Go.Proofs.Ytecfdcdkkgmkpaa.itwice
open Go Go.ChangeShapes Go.WideShapes Go.ChangeAt Go.WideMaps Go.WideElems Go.RowKit
theorem own:ownKnob Try.prog.godebug=none:=by kernel_rfl
theorem W7:laidOutB Try.prog=true:=by kernel_rfl
theorem UW:(Try.f4.params.toList.all fun t=>Try.prog.readableRec t&&decide (t<Try.prog.types.size))=true:=by kernel_rfl
set_option maxRecDepth 100000 in
theorem UR(H:Type)(enc:TypeId×Value->H)(W:World)(base:Nat)(args:Array Value)(ds gs:List (DataW H))(before:List MemPlace)
  (hval:∀ (j:Nat) t v,Try.f4.params[j]?=some t->args[j]?=some v->Value.okWide Try.prog W .any base t v)
  (hW:DataW.Whole enc Try.prog Try.f4.params.toList Rows.invertTwiceSpec.vars false W args.toList ds gs before):
  Calls Try.prog 4 args W fun e W'=>∃ v,e=.returned v/\Rows.invertTwiceSpec.post enc Try.prog Try.f4 false true false false W args v W':=by
 have hW':=hW
 obtain⟨p,q,hA0,hV,rfl,hfz,hnd⟩:=hW
 have hA:DataW.TrodAll enc Try.prog W 0 (fun _=>true) true Try.f4.params.toList args.toList ds p:=hA0
 have hA1:=hA
 rw[Try.params4]at hA hval
 obtain⟨v0,d0,rfl,rfl,h0⟩:=trodAll_one hA
 obtain⟨rfl,rfl⟩:=trodVars_none hV
 obtain⟨x0,cs0,rfl,hF0,hI0⟩:=S2 (hval 0 32 v0 rfl rfl) h0
 clear hA0 hA
 simp only[List.append_nil]at hW' hA1
 refine(TQ (S7 x0 hI0) (vs:=[.agg cs0.toArray]) ⟨⟨cs0,rfl,hF0⟩,trivial⟩).mono fun e W' ⟨he,hb⟩=>?_
 exact⟨_,he,TO W7 UW rfl rfl rfl Try.underlying4 hW' hA1 hb⟩
set_option maxRecDepth 100000 in
theorem WN(os:Os)(started:os.Started)(H:Type)(enc:TypeId×Value->H):
  ReturnsInHanded {} Try.checked os 4 .any (Rows.invertTwiceSpec.pre6 enc Try.prog Try.f4 Rows.invertTwiceRow.domain false) (Rows.invertTwiceSpec.post enc Try.prog Try.f4 false true false false):=by
 refine returnsInHanded_of_change (C:=Try.checked) own started (by kernel_rfl) Try.func4
  (ChangeSpec.witness6 (enc:=enc) (C:=Try.checked) false ⟨#[],#[.agg #[.int .i64 0,.int .i64 0,.int .u64 0,.string .empty,.slice none 0 0,.string .empty,.slice none 0 0,.slice none 0 0,.int .i64 0,.int .u64 0,.string .empty,.slice none 0 0,.string .empty,.slice none 0 0,.slice none 0 0,.slice none 0 0,.bool false,.string .empty,.string .empty,.slice none 0 0,.slice none 0 0]],[]⟩ 8 (by kernel_rfl) (by kernel_rfl) (by kernel_rfl) (by kernel_rfl)) ?_
 intro W base args ds gs before hval hW _ _
 exact UR H enc W base args ds gs before hval hW
theorem said:Rows.InvertTwiceSaid:=
 OpenClaim.holds_of_wide 4 Try.f4 rfl rfl rfl rfl rfl rfl rfl ⟨rfl,rfl,rfl,rfl,rfl⟩ rfl rfl rfl rfl rfl (by kernel_rfl) Try.func4 (by kernel_rfl)
  (of_decide_eq_true (by kernel_rfl)) (by unfold Func.isWrapper;first | (rw[if_pos (by decide +kernel)];kernel_rfl) | (rw[if_neg (by decide +kernel)];exact⟨rfl,rfl⟩))
  (fun os started H enc _=>WN os started H enc)
#print axioms said
end Go.Proofs.Ytecfdcdkkgmkpaa.itwice
namespace Go.Proofs.Ytecfdcdkkgmkpaa
open Go.RowKit
end Go.Proofs.Ytecfdcdkkgmkpaa
