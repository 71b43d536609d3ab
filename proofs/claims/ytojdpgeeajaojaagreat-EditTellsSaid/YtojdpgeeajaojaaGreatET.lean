/- EditTells: for every two edits the law returns true, and its arguments read behind the call as before. No condition. -/
import Derived.Test.YtojdpgeeajaojaaGreatET29
import Derived.Test.YtojdpgeeajaojaaGreatRows
set_option maxRecDepth 100000
namespace Go.Proofs.YtojdpgeeajaojaaGreat
open Go.RowKit
end Go.Proofs.YtojdpgeeajaojaaGreat
namespace Go.Proofs.YtojdpgeeajaojaaGreat.etells
open Go Go.ChangeShapes Go.WideShapes Go.ChangeAt Go.WideMaps Go.WideElems Go.RowKit
theorem own:ownKnob Tryz.prog.godebug=none:=by kernel_rfl
theorem TF:laidOutB Tryz.prog=true:=by kernel_rfl
theorem SG:(Tryz.f3.params.toList.all fun t=>Tryz.prog.readableRec t&&decide (t<Tryz.prog.types.size))=true:=by kernel_rfl
set_option maxRecDepth 100000 in
theorem S7(H:Type)(enc:TypeId×Value->H)(W:World)(base:Nat)(args:Array Value)(ds gs:List (DataW H))(before:List MemPlace)
  (hval:∀ (j:Nat) t v,Tryz.f3.params[j]?=some t->args[j]?=some v->Value.okWide Tryz.prog W .any base t v)
  (hW:DataW.Whole enc Tryz.prog Tryz.f3.params.toList Rows.editTellsSpec.vars false W args.toList ds gs before):
  Calls Tryz.prog 3 args W fun e W'=>∃ v,e=.returned v/\Rows.editTellsSpec.post enc Tryz.prog Tryz.f3 false true false false W args v W':=by
 have hW':=hW
 obtain⟨p,q,hA0,hV,rfl,hfz,hnd⟩:=hW
 have hA:DataW.TrodAll enc Tryz.prog W 0 (fun _=>true) true Tryz.f3.params.toList args.toList ds p:=hA0
 have hA1:=hA
 rw[Tryz.params3]at hA hval
 obtain⟨v0,v1,d0,d1,p0,p1,rfl,rfl,rfl,h0,h1⟩:=trodAll_two hA
 obtain⟨rfl,rfl⟩:=trodVars_none hV
 obtain⟨x0,cs0,rfl,hF0,hI0⟩:=L7 (hval 0 32 v0 rfl rfl) h0
 obtain⟨x1,cs1,rfl,hF1,hI1⟩:=L7 (hval 1 32 v1 rfl rfl) h1
 clear hA0 hA
 simp only[List.append_nil]at hW' hA1
 refine(RU (QV x0 x1 hI0 hI1) (vs:=[.agg cs0.toArray,.agg cs1.toArray]) ⟨⟨cs0,rfl,hF0⟩,⟨cs1,rfl,hF1⟩,trivial⟩).mono fun e W' ⟨he,hb⟩=>?_
 exact⟨_,he,RA TF SG rfl rfl rfl Tryz.underlying4 hW' hA1 hb⟩
set_option maxRecDepth 100000 in
theorem UB(os:Os)(started:os.Started)(H:Type)(enc:TypeId×Value->H):
  ReturnsInHanded {} Tryz.checked os 3 .any (Rows.editTellsSpec.pre6 enc Tryz.prog Tryz.f3 Rows.editTellsRow.domain false) (Rows.editTellsSpec.post enc Tryz.prog Tryz.f3 false true false false):=by
 refine returnsInHanded_of_change (C:=Tryz.checked) own started (by kernel_rfl) Tryz.func3
  (ChangeSpec.witness6 (enc:=enc) (C:=Tryz.checked) false ⟨#[],#[.agg #[.int .i64 0,.int .i64 0,.int .u64 0,.string .empty,.slice none 0 0,.string .empty,.slice none 0 0,.slice none 0 0,.int .i64 0,.int .u64 0,.string .empty,.slice none 0 0,.string .empty,.slice none 0 0,.slice none 0 0,.slice none 0 0,.bool false,.string .empty,.string .empty,.slice none 0 0,.slice none 0 0],.agg #[.int .i64 0,.int .i64 0,.int .u64 0,.string .empty,.slice none 0 0,.string .empty,.slice none 0 0,.slice none 0 0,.int .i64 0,.int .u64 0,.string .empty,.slice none 0 0,.string .empty,.slice none 0 0,.slice none 0 0,.slice none 0 0,.bool false,.string .empty,.string .empty,.slice none 0 0,.slice none 0 0]],[]⟩ 8 (by kernel_rfl) (by kernel_rfl) (by kernel_rfl) (by kernel_rfl)) ?_
 intro W base args ds gs before hval hW _ _
 exact S7 H enc W base args ds gs before hval hW
theorem said:Rows.EditTellsSaid:=
 OpenClaim.holds_of_wide 3 Tryz.f3 rfl rfl rfl rfl rfl rfl rfl ⟨rfl,rfl,rfl,rfl,rfl⟩ rfl rfl rfl rfl rfl (by kernel_rfl) Tryz.func3 (by kernel_rfl)
  (of_decide_eq_true (by kernel_rfl)) (by unfold Func.isWrapper;first | (rw[if_pos (by decide +kernel)];kernel_rfl) | (rw[if_neg (by decide +kernel)];exact⟨rfl,rfl⟩))
  (fun os started H enc _=>UB os started H enc)
#print axioms said
end Go.Proofs.YtojdpgeeajaojaaGreat.etells
namespace Go.Proofs.YtojdpgeeajaojaaGreat
open Go.RowKit
end Go.Proofs.YtojdpgeeajaojaaGreat
