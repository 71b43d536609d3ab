/- Part 9. Conditions: as each theorem says. -/
import Derived.Test.YtgcphgdkddihcaaGreatDoorSR08
import Derived.Test.YtgcphgdkddihcaaGreatDoorProg
import Derived.Laws.StructEq
import Derived.Lib.AppendStr
import Derived.Lib.Builder
set_option maxRecDepth 100000
namespace Go.Proofs.YtgcphgdkddihcaaGreatDoor
open Go.RowKit
theorem one_3:oneT Tryz.prog 3=true:=by kernel_rfl
theorem sz_3:sizeT Tryz.prog 3=some 1:=by kernel_rfl
theorem int_3:Tryz.prog.underlying 3=some (.int .i64):=by kernel_rfl
theorem zr_3:C5 Tryz.prog 3=some [.int .i64 0]:=by kernel_rfl
theorem one_4:oneT Tryz.prog 4=true:=by kernel_rfl
theorem sz_4:sizeT Tryz.prog 4=some 1:=by kernel_rfl
theorem bool_4:Tryz.prog.underlying 4=some .bool:=by kernel_rfl
theorem zr_4:C5 Tryz.prog 4=some [.bool false]:=by kernel_rfl
theorem one_9:oneT Tryz.prog 9=true:=by kernel_rfl
theorem sz_9:sizeT Tryz.prog 9=some 1:=by kernel_rfl
theorem str_9:Tryz.prog.underlying 9=some .string:=by kernel_rfl
theorem zr_9:C5 Tryz.prog 9=some [.string ⟨#[]⟩]:=by kernel_rfl
theorem one_23:oneT Tryz.prog 23=true:=by kernel_rfl
theorem sz_23:sizeT Tryz.prog 23=some 1:=by kernel_rfl
theorem sl_23:Tryz.prog.underlying 23=some (.slice 71):=by kernel_rfl
theorem sle_23:Tryz.prog.underlying 23=some (.slice (Tryz.prog.elem 23)):=by kernel_rfl
theorem esz_23:sizeT Tryz.prog (Tryz.prog.elem 23)=some 3:=by kernel_rfl
theorem ap_23:(Tryz.prog.info? 71).map (fun i=>(i.size,i.bytes,i.zero.map (·.cells.size)))=some (3,64,some 3):=by kernel_rfl
theorem one_24:oneT Tryz.prog 24=true:=by kernel_rfl
theorem sz_24:sizeT Tryz.prog 24=some 1:=by kernel_rfl
theorem sl_24:Tryz.prog.underlying 24=some (.slice 74):=by kernel_rfl
theorem sle_24:Tryz.prog.underlying 24=some (.slice (Tryz.prog.elem 24)):=by kernel_rfl
theorem esz_24:sizeT Tryz.prog (Tryz.prog.elem 24)=some 3:=by kernel_rfl
theorem ap_24:(Tryz.prog.info? 74).map (fun i=>(i.size,i.bytes,i.zero.map (·.cells.size)))=some (3,64,some 3):=by kernel_rfl
theorem agg_26:aggT Tryz.prog 26=true:=by kernel_rfl
theorem sz_26:sizeT Tryz.prog 26=some 2:=by kernel_rfl
theorem off_26_0:BP Tryz.prog 26 0=some 0:=by kernel_rfl
theorem off_26_1:BP Tryz.prog 26 1=some 1:=by kernel_rfl
theorem pl_26:CF Tryz.prog 26=some [(0,1),(1,1)]:=by kernel_rfl
theorem zr_26:C5 Tryz.prog 26=some [.slice none 0 0,.slice none 0 0]:=by kernel_rfl
theorem one_28:oneT Tryz.prog 28=true:=by kernel_rfl
noncomputable def ifcms_28:Array (String×TypeId):=match Tryz.prog.underlying 28 with | some (.interface ms)=>ms | _ => #[]
theorem ifc_28:Tryz.prog.underlying 28=some (.interface ifcms_28):=by kernel_rfl
theorem one_39:oneT Tryz.prog 39=true:=by kernel_rfl
theorem sz_39:sizeT Tryz.prog 39=some 1:=by kernel_rfl
theorem sl_39:Tryz.prog.underlying 39=some (.slice 204):=by kernel_rfl
theorem sle_39:Tryz.prog.underlying 39=some (.slice (Tryz.prog.elem 39)):=by kernel_rfl
theorem esz_39:sizeT Tryz.prog (Tryz.prog.elem 39)=some 9:=by kernel_rfl
theorem ap_39:(Tryz.prog.info? 204).map (fun i=>(i.size,i.bytes,i.zero.map (·.cells.size)))=some (9,176,some 9):=by kernel_rfl
theorem one_40:oneT Tryz.prog 40=true:=by kernel_rfl
theorem sz_40:sizeT Tryz.prog 40=some 1:=by kernel_rfl
theorem sl_40:Tryz.prog.underlying 40=some (.slice 200):=by kernel_rfl
theorem sle_40:Tryz.prog.underlying 40=some (.slice (Tryz.prog.elem 40)):=by kernel_rfl
theorem esz_40:sizeT Tryz.prog (Tryz.prog.elem 40)=some 4:=by kernel_rfl
theorem ap_40:(Tryz.prog.info? 200).map (fun i=>(i.size,i.bytes,i.zero.map (·.cells.size)))=some (4,56,some 4):=by kernel_rfl
theorem agg_42:aggT Tryz.prog 42=true:=by kernel_rfl
theorem sz_42:sizeT Tryz.prog 42=some 3:=by kernel_rfl
theorem off_42_0:BP Tryz.prog 42 0=some 0:=by kernel_rfl
theorem off_42_1:BP Tryz.prog 42 1=some 1:=by kernel_rfl
theorem off_42_2:BP Tryz.prog 42 2=some 2:=by kernel_rfl
theorem pl_42:CF Tryz.prog 42=some [(0,1),(1,1),(2,1)]:=by kernel_rfl
theorem zr_42:C5 Tryz.prog 42=some [.string ⟨#[]⟩,.slice none 0 0,.slice none 0 0]:=by kernel_rfl
theorem one_54:oneT Tryz.prog 54=true:=by kernel_rfl
theorem sz_54:sizeT Tryz.prog 54=some 1:=by kernel_rfl
theorem sl_54:Tryz.prog.underlying 54=some (.slice 9):=by kernel_rfl
theorem sle_54:Tryz.prog.underlying 54=some (.slice (Tryz.prog.elem 54)):=by kernel_rfl
theorem esz_54:sizeT Tryz.prog (Tryz.prog.elem 54)=some 1:=by kernel_rfl
theorem ap_54:(Tryz.prog.info? 9).map (fun i=>(i.size,i.bytes,i.zero.map (·.cells.size)))=some (1,16,some 1):=by kernel_rfl
theorem agg_61:aggT Tryz.prog 61=true:=by kernel_rfl
theorem sz_61:sizeT Tryz.prog 61=some 9:=by kernel_rfl
theorem off_61_0:BP Tryz.prog 61 0=some 0:=by kernel_rfl
theorem off_61_1:BP Tryz.prog 61 1=some 1:=by kernel_rfl
theorem off_61_2:BP Tryz.prog 61 2=some 2:=by kernel_rfl
theorem off_61_3:BP Tryz.prog 61 3=some 3:=by kernel_rfl
theorem off_61_4:BP Tryz.prog 61 4=some 4:=by kernel_rfl
theorem off_61_5:BP Tryz.prog 61 5=some 5:=by kernel_rfl
theorem off_61_6:BP Tryz.prog 61 6=some 6:=by kernel_rfl
theorem off_61_7:BP Tryz.prog 61 7=some 7:=by kernel_rfl
theorem off_61_8:BP Tryz.prog 61 8=some 8:=by kernel_rfl
theorem pl_61:CF Tryz.prog 61=some [(0,1),(1,1),(2,1),(3,1),(4,1),(5,1),(6,1),(7,1),(8,1)]:=by kernel_rfl
theorem zr_61:C5 Tryz.prog 61=some [.string ⟨#[]⟩,.int .i64 0,.int .i64 0,.int .i64 0,.int .i64 0,.bool false,.int .i64 0,.int .i64 0,.int .i64 0]:=by kernel_rfl
theorem one_69:oneT Tryz.prog 69=true:=by kernel_rfl
theorem sz_69:sizeT Tryz.prog 69=some 1:=by kernel_rfl
theorem sl_69:Tryz.prog.underlying 69=some (.slice 61):=by kernel_rfl
theorem sle_69:Tryz.prog.underlying 69=some (.slice (Tryz.prog.elem 69)):=by kernel_rfl
theorem esz_69:sizeT Tryz.prog (Tryz.prog.elem 69)=some 9:=by kernel_rfl
theorem ap_69:(Tryz.prog.info? 61).map (fun i=>(i.size,i.bytes,i.zero.map (·.cells.size)))=some (9,80,some 9):=by kernel_rfl
theorem agg_71:aggT Tryz.prog 71=true:=by kernel_rfl
theorem sz_71:sizeT Tryz.prog 71=some 3:=by kernel_rfl
theorem off_71_0:BP Tryz.prog 71 0=some 0:=by kernel_rfl
theorem off_71_1:BP Tryz.prog 71 1=some 1:=by kernel_rfl
theorem off_71_2:BP Tryz.prog 71 2=some 2:=by kernel_rfl
theorem pl_71:CF Tryz.prog 71=some [(0,1),(1,1),(2,1)]:=by kernel_rfl
theorem zr_71:C5 Tryz.prog 71=some [.string ⟨#[]⟩,.slice none 0 0,.slice none 0 0]:=by kernel_rfl
theorem one_72:oneT Tryz.prog 72=true:=by kernel_rfl
theorem sz_72:sizeT Tryz.prog 72=some 1:=by kernel_rfl
theorem sl_72:Tryz.prog.underlying 72=some (.slice 3):=by kernel_rfl
theorem sle_72:Tryz.prog.underlying 72=some (.slice (Tryz.prog.elem 72)):=by kernel_rfl
theorem esz_72:sizeT Tryz.prog (Tryz.prog.elem 72)=some 1:=by kernel_rfl
theorem ap_72:(Tryz.prog.info? 3).map (fun i=>(i.size,i.bytes,i.zero.map (·.cells.size)))=some (1,8,some 1):=by kernel_rfl
theorem agg_74:aggT Tryz.prog 74=true:=by kernel_rfl
theorem sz_74:sizeT Tryz.prog 74=some 3:=by kernel_rfl
theorem off_74_1:BP Tryz.prog 74 1=some 1:=by kernel_rfl
theorem off_74_2:BP Tryz.prog 74 2=some 2:=by kernel_rfl
theorem pl_74:CF Tryz.prog 74=some [(0,1),(1,1),(2,1)]:=by kernel_rfl
theorem zr_74:C5 Tryz.prog 74=some [.string ⟨#[]⟩,.slice none 0 0,.slice none 0 0]:=by kernel_rfl
theorem one_84:oneT Tryz.prog 84=true:=by kernel_rfl
theorem sle_84:Tryz.prog.underlying 84=some (.slice (Tryz.prog.elem 84)):=by kernel_rfl
theorem esz_84:sizeT Tryz.prog (Tryz.prog.elem 84)=some 5:=by kernel_rfl
theorem one_88:oneT Tryz.prog 88=true:=by kernel_rfl
theorem one_92:oneT Tryz.prog 92=true:=by kernel_rfl
theorem one_93:oneT Tryz.prog 93=true:=by kernel_rfl
theorem sz_93:sizeT Tryz.prog 93=some 1:=by kernel_rfl
theorem sl_93:Tryz.prog.underlying 93=some (.slice 142):=by kernel_rfl
theorem sle_93:Tryz.prog.underlying 93=some (.slice (Tryz.prog.elem 93)):=by kernel_rfl
theorem esz_93:sizeT Tryz.prog (Tryz.prog.elem 93)=some 1:=by kernel_rfl
theorem ap_93:(Tryz.prog.info? 142).map (fun i=>(i.size,i.bytes,i.zero.map (·.cells.size)))=some (1,8,some 1):=by kernel_rfl
theorem off_95_0:BP Tryz.prog 95 0=some 0:=by kernel_rfl
theorem off_95_1:BP Tryz.prog 95 1=some 1:=by kernel_rfl
theorem off_95_2:BP Tryz.prog 95 2=some 2:=by kernel_rfl
theorem off_95_3:BP Tryz.prog 95 3=some 3:=by kernel_rfl
theorem off_95_4:BP Tryz.prog 95 4=some 5:=by kernel_rfl
theorem pl_95:CF Tryz.prog 95=some [(0,1),(1,1),(2,1),(3,2),(5,1)]:=by kernel_rfl
theorem zr_95:C5 Tryz.prog 95=some [.pointer none,.slice none 0 0,.slice none 0 0,.slice none 0 0,.slice none 0 0,.slice none 0 0]:=by kernel_rfl
theorem pl_126:CF Tryz.prog 126=some [(0,1),(1,1),(2,1)]:=by kernel_rfl
theorem zr_126:C5 Tryz.prog 126=some [.int .i64 0,.int .i64 0,.nilIface]:=by kernel_rfl
theorem agg_128:aggT Tryz.prog 128=true:=by kernel_rfl
theorem sz_128:sizeT Tryz.prog 128=some 5:=by kernel_rfl
theorem off_128_0:BP Tryz.prog 128 0=some 0:=by kernel_rfl
theorem off_128_1:BP Tryz.prog 128 1=some 1:=by kernel_rfl
theorem off_128_2:BP Tryz.prog 128 2=some 2:=by kernel_rfl
theorem off_128_3:BP Tryz.prog 128 3=some 3:=by kernel_rfl
theorem off_128_4:BP Tryz.prog 128 4=some 4:=by kernel_rfl
theorem pl_128:CF Tryz.prog 128=some [(0,1),(1,1),(2,1),(3,1),(4,1)]:=by kernel_rfl
theorem zr_128:C5 Tryz.prog 128=some [.int .i64 0,.string ⟨#[]⟩,.int .i64 0,.int .i64 0,.int .i64 0]:=by kernel_rfl
theorem sz_134:sizeT Tryz.prog 134=some 2:=by kernel_rfl
theorem off_134_0:BP Tryz.prog 134 0=some 0:=by kernel_rfl
theorem off_134_1:BP Tryz.prog 134 1=some 1:=by kernel_rfl
theorem pl_134:CF Tryz.prog 134=some [(0,1),(1,1)]:=by kernel_rfl
theorem zr_134:C5 Tryz.prog 134=some [.slice none 0 0,.int .i64 0]:=by kernel_rfl
theorem one_142:oneT Tryz.prog 142=true:=by kernel_rfl
theorem sz_142:sizeT Tryz.prog 142=some 1:=by kernel_rfl
theorem zr_142:C5 Tryz.prog 142=some [.nilFunc]:=by kernel_rfl
theorem one_154:oneT Tryz.prog 154=true:=by kernel_rfl
theorem sz_154:sizeT Tryz.prog 154=some 1:=by kernel_rfl
theorem sl_154:Tryz.prog.underlying 154=some (.slice 5):=by kernel_rfl
theorem one_183:oneT Tryz.prog 183=true:=by kernel_rfl
theorem one_190:oneT Tryz.prog 190=true:=by kernel_rfl
theorem one_191:oneT Tryz.prog 191=true:=by kernel_rfl
theorem agg_192:aggT Tryz.prog 192=true:=by kernel_rfl
theorem sz_192:sizeT Tryz.prog 192=some 5:=by kernel_rfl
theorem off_192_0:BP Tryz.prog 192 0=some 0:=by kernel_rfl
theorem off_192_1:BP Tryz.prog 192 1=some 1:=by kernel_rfl
theorem off_192_2:BP Tryz.prog 192 2=some 2:=by kernel_rfl
theorem off_192_3:BP Tryz.prog 192 3=some 3:=by kernel_rfl
theorem off_192_4:BP Tryz.prog 192 4=some 4:=by kernel_rfl
theorem pl_192:CF Tryz.prog 192=some [(0,1),(1,1),(2,1),(3,1),(4,1)]:=by kernel_rfl
theorem zr_192:C5 Tryz.prog 192=some [.string ⟨#[]⟩,.bool false,.int .i64 0,.int .i64 0,.int .i64 0]:=by kernel_rfl
theorem off_195_0:BP Tryz.prog 195 0=some 0:=by kernel_rfl
theorem off_195_1:BP Tryz.prog 195 1=some 200:=by kernel_rfl
theorem off_195_2:BP Tryz.prog 195 2=some 201:=by kernel_rfl
theorem off_195_3:BP Tryz.prog 195 3=some 202:=by kernel_rfl
theorem pl_195:CF Tryz.prog 195=some [(0,200),(200,1),(201,1),(202,1)]:=by kernel_rfl
theorem one_198:oneT Tryz.prog 198=true:=by kernel_rfl
theorem sz_198:sizeT Tryz.prog 198=some 1:=by kernel_rfl
theorem sl_198:Tryz.prog.underlying 198=some (.slice 206):=by kernel_rfl
theorem sle_198:Tryz.prog.underlying 198=some (.slice (Tryz.prog.elem 198)):=by kernel_rfl
theorem esz_198:sizeT Tryz.prog (Tryz.prog.elem 198)=some 4:=by kernel_rfl
theorem ap_198:(Tryz.prog.info? 206).map (fun i=>(i.size,i.bytes,i.zero.map (·.cells.size)))=some (4,40,some 4):=by kernel_rfl
theorem agg_200:aggT Tryz.prog 200=true:=by kernel_rfl
theorem sz_200:sizeT Tryz.prog 200=some 4:=by kernel_rfl
theorem off_200_0:BP Tryz.prog 200 0=some 0:=by kernel_rfl
theorem off_200_1:BP Tryz.prog 200 1=some 1:=by kernel_rfl
theorem off_200_2:BP Tryz.prog 200 2=some 2:=by kernel_rfl
theorem off_200_3:BP Tryz.prog 200 3=some 3:=by kernel_rfl
theorem pl_200:CF Tryz.prog 200=some [(0,1),(1,1),(2,1),(3,1)]:=by kernel_rfl
theorem zr_200:C5 Tryz.prog 200=some [.string ⟨#[]⟩,.slice none 0 0,.int .i64 0,.int .i64 0]:=by kernel_rfl
theorem one_201:oneT Tryz.prog 201=true:=by kernel_rfl
theorem sz_201:sizeT Tryz.prog 201=some 1:=by kernel_rfl
theorem sl_201:Tryz.prog.underlying 201=some (.slice 210):=by kernel_rfl
theorem sle_201:Tryz.prog.underlying 201=some (.slice (Tryz.prog.elem 201)):=by kernel_rfl
theorem esz_201:sizeT Tryz.prog (Tryz.prog.elem 201)=some 10:=by kernel_rfl
theorem ap_201:(Tryz.prog.info? 210).map (fun i=>(i.size,i.bytes,i.zero.map (·.cells.size)))=some (10,112,some 10):=by kernel_rfl
theorem one_202:oneT Tryz.prog 202=true:=by kernel_rfl
theorem sz_202:sizeT Tryz.prog 202=some 1:=by kernel_rfl
theorem sl_202:Tryz.prog.underlying 202=some (.slice 353):=by kernel_rfl
theorem sle_202:Tryz.prog.underlying 202=some (.slice (Tryz.prog.elem 202)):=by kernel_rfl
theorem esz_202:sizeT Tryz.prog (Tryz.prog.elem 202)=some 2:=by kernel_rfl
theorem ap_202:(Tryz.prog.info? 353).map (fun i=>(i.size,i.bytes,i.zero.map (·.cells.size)))=some (2,16,some 2):=by kernel_rfl
theorem agg_204:aggT Tryz.prog 204=true:=by kernel_rfl
theorem sz_204:sizeT Tryz.prog 204=some 9:=by kernel_rfl
theorem off_204_0:BP Tryz.prog 204 0=some 0:=by kernel_rfl
theorem off_204_1:BP Tryz.prog 204 1=some 1:=by kernel_rfl
theorem off_204_2:BP Tryz.prog 204 2=some 2:=by kernel_rfl
theorem off_204_3:BP Tryz.prog 204 3=some 3:=by kernel_rfl
theorem off_204_4:BP Tryz.prog 204 4=some 4:=by kernel_rfl
theorem off_204_5:BP Tryz.prog 204 5=some 5:=by kernel_rfl
theorem off_204_6:BP Tryz.prog 204 6=some 6:=by kernel_rfl
theorem off_204_7:BP Tryz.prog 204 7=some 7:=by kernel_rfl
theorem off_204_8:BP Tryz.prog 204 8=some 8:=by kernel_rfl
theorem pl_204:CF Tryz.prog 204=some [(0,1),(1,1),(2,1),(3,1),(4,1),(5,1),(6,1),(7,1),(8,1)]:=by kernel_rfl
theorem zr_204:C5 Tryz.prog 204=some [.string ⟨#[]⟩,.slice none 0 0,.slice none 0 0,.slice none 0 0,.slice none 0 0,.slice none 0 0,.slice none 0 0,.int .i64 0,.int .i64 0]:=by kernel_rfl
theorem agg_206:aggT Tryz.prog 206=true:=by kernel_rfl
theorem sz_206:sizeT Tryz.prog 206=some 4:=by kernel_rfl
theorem off_206_0:BP Tryz.prog 206 0=some 0:=by kernel_rfl
theorem off_206_1:BP Tryz.prog 206 1=some 1:=by kernel_rfl
theorem off_206_2:BP Tryz.prog 206 2=some 2:=by kernel_rfl
theorem off_206_3:BP Tryz.prog 206 3=some 3:=by kernel_rfl
theorem pl_206:CF Tryz.prog 206=some [(0,1),(1,1),(2,1),(3,1)]:=by kernel_rfl
theorem zr_206:C5 Tryz.prog 206=some [.string ⟨#[]⟩,.int .i64 0,.int .i64 0,.int .i64 0]:=by kernel_rfl
theorem agg_210:aggT Tryz.prog 210=true:=by kernel_rfl
theorem sz_210:sizeT Tryz.prog 210=some 10:=by kernel_rfl
theorem off_210_0:BP Tryz.prog 210 0=some 0:=by kernel_rfl
theorem off_210_1:BP Tryz.prog 210 1=some 1:=by kernel_rfl
theorem off_210_2:BP Tryz.prog 210 2=some 2:=by kernel_rfl
theorem off_210_3:BP Tryz.prog 210 3=some 3:=by kernel_rfl
theorem off_210_4:BP Tryz.prog 210 4=some 4:=by kernel_rfl
theorem off_210_5:BP Tryz.prog 210 5=some 5:=by kernel_rfl
theorem off_210_6:BP Tryz.prog 210 6=some 6:=by kernel_rfl
theorem off_210_7:BP Tryz.prog 210 7=some 7:=by kernel_rfl
theorem off_210_8:BP Tryz.prog 210 8=some 8:=by kernel_rfl
theorem off_210_9:BP Tryz.prog 210 9=some 9:=by kernel_rfl
theorem pl_210:CF Tryz.prog 210=some [(0,1),(1,1),(2,1),(3,1),(4,1),(5,1),(6,1),(7,1),(8,1),(9,1)]:=by kernel_rfl
theorem zr_210:C5 Tryz.prog 210=some [.string ⟨#[]⟩,.string ⟨#[]⟩,.string ⟨#[]⟩,.string ⟨#[]⟩,.int .i64 0,.int .i64 0,.int .i64 0,.int .i64 0,.int .i64 0,.int .i64 0]:=by kernel_rfl
theorem sz_212:sizeT Tryz.prog 212=some 23:=by kernel_rfl
theorem off_212_0:BP Tryz.prog 212 0=some 0:=by kernel_rfl
theorem off_212_1:BP Tryz.prog 212 1=some 9:=by kernel_rfl
theorem off_212_2:BP Tryz.prog 212 2=some 10:=by kernel_rfl
theorem off_212_3:BP Tryz.prog 212 3=some 20:=by kernel_rfl
theorem off_212_4:BP Tryz.prog 212 4=some 21:=by kernel_rfl
theorem off_212_5:BP Tryz.prog 212 5=some 22:=by kernel_rfl
theorem pl_212:CF Tryz.prog 212=some [(0,9),(9,1),(10,10),(20,1),(21,1),(22,1)]:=by kernel_rfl
theorem zr_212:C5 Tryz.prog 212=some [.string ⟨#[]⟩,.slice none 0 0,.slice none 0 0,.slice none 0 0,.slice none 0 0,.slice none 0 0,.slice none 0 0,.int .i64 0,.int .i64 0,.int .i64 0,.string ⟨#[]⟩,.string ⟨#[]⟩,.string ⟨#[]⟩,.string ⟨#[]⟩,.int .i64 0,.int .i64 0,.int .i64 0,.int .i64 0,.int .i64 0,.int .i64 0,.int .i64 0,.int .i64 0,.bool false]:=by kernel_rfl
theorem one_262:oneT Tryz.prog 262=true:=by kernel_rfl
theorem sz_262:sizeT Tryz.prog 262=some 1:=by kernel_rfl
theorem off_264_0:BP Tryz.prog 264 0=some 0:=by kernel_rfl
theorem off_264_1:BP Tryz.prog 264 1=some 1:=by kernel_rfl
theorem zr_264:C5 Tryz.prog 264=some [.pointer none,.slice none 0 0]:=by kernel_rfl
theorem sle_271:Tryz.prog.underlying 271=some (.slice (Tryz.prog.elem 271)):=by kernel_rfl
theorem esz_271:sizeT Tryz.prog (Tryz.prog.elem 271)=some 5:=by kernel_rfl
theorem one_276:oneT Tryz.prog 276=true:=by kernel_rfl
theorem sl_277:Tryz.prog.underlying 277=some (.slice 281):=by kernel_rfl
theorem sle_277:Tryz.prog.underlying 277=some (.slice (Tryz.prog.elem 277)):=by kernel_rfl
theorem esz_277:sizeT Tryz.prog (Tryz.prog.elem 277)=some 2:=by kernel_rfl
theorem one_279:oneT Tryz.prog 279=true:=by kernel_rfl
theorem agg_281:aggT Tryz.prog 281=true:=by kernel_rfl
theorem sz_281:sizeT Tryz.prog 281=some 2:=by kernel_rfl
theorem off_281_0:BP Tryz.prog 281 0=some 0:=by kernel_rfl
theorem off_281_1:BP Tryz.prog 281 1=some 1:=by kernel_rfl
theorem pl_281:CF Tryz.prog 281=some [(0,1),(1,1)]:=by kernel_rfl
theorem zr_281:C5 Tryz.prog 281=some [.nilFunc,.nilIface]:=by kernel_rfl
theorem one_320:oneT Tryz.prog 320=true:=by kernel_rfl
theorem agg_353:aggT Tryz.prog 353=true:=by kernel_rfl
theorem sz_353:sizeT Tryz.prog 353=some 2:=by kernel_rfl
theorem off_353_0:BP Tryz.prog 353 0=some 0:=by kernel_rfl
theorem off_353_1:BP Tryz.prog 353 1=some 1:=by kernel_rfl
theorem pl_353:CF Tryz.prog 353=some [(0,1),(1,1)]:=by kernel_rfl
theorem zr_353:C5 Tryz.prog 353=some [.int .i64 0,.int .i64 0]:=by kernel_rfl
theorem mixed:Tryz.prog.follows .mixedOrders=true:=by kernel_rfl
section
section
variable{P:Program}{cx:Cx}{T:TL}{B:BL}{R:RL}
theorem Q7i{ι:Type}{Q:Exit->Act->World->Prop}{K:Act->World->Prop}{x:Code}(Ti:ι->TL)(Bi:ι->BL)(Ri:ι->RL)(h1:E cx T B R (x.wp P (Exit.then (Cut cx Ti Bi Ri) Q)))(h2:∀ i,E cx (Ti i) (Bi i) (Ri i) K):E cx T B R (x.wp P (Exit.then K Q)):=fun M V a w hr=>by
 refine wp_mono (h1 M V a w hr) fun e a' w' hq=>?_
 cases e<;>first | exact hq | (obtain⟨i,M',V',h3⟩:=hq;exact h2 i M' V' a' w' h3)
end
end
section
noncomputable def Q08 (p:Prop):Bool:=@decide p (Classical.propDecidable p)
theorem OI{p:Prop}:Q08 p=true↔p:=by unfold Q08;exact @decide_eq_true_iff p (Classical.propDecidable p)
theorem Q5D{p:Prop}{b:Bool}(h:b=true↔p):b=Q08 p:=by
 cases b
 ·cases hc:Q08 p
  ·rfl
  ·exact absurd (h.2 (OI.1 hc)) (by decide)
 ·exact(OI.2 (h.1 rfl)).symm
inductive Alike (P:Program) (t:TypeId):Value->Value->Prop where
 | int (k k':IntKind) (a b:Int) (h:P.underlying t=some (.int k')):Alike P t (.int k a) (.int k b)
 | str (a b:List UInt8) (h:P.underlying t=some .string):Alike P t (.string (str a)) (.string (str b))
theorem WW{P:Program}{t:TypeId}{xs:Array Value}{i:Nat}{v:Value}(w:World)(ht:P.underlying t=some .string \/ ∃ k,P.underlying t=some (.int k))(h:xs[i]?=some v):(part t xs i).run P w=.ok v w:=by
 rcases ht with hu | ⟨k,hu⟩<;>simp[part,isAgg,run_underlying hu,h]
theorem Alike.plain{P:Program}{t:TypeId}{a b:Value}(h:Alike P t a b):P.underlying t=some .string \/ ∃ k,P.underlying t=some (.int k):=by
 cases h with
 | int k k' a b hu=>exact .inr ⟨k',hu⟩
 | str a b hu=>exact .inl hu
section
variable{P:Program}{cx:Cx}{T:TL}{B:BL}{R:RL}{o:Oper}
theorem JG{w:World}{D:Nat->Prop}{M:Nat->Nat}{V:Nat->Value}{cs:List Value}{v:Value}(h:VR w D M V (.part (.many (cs.map .cell))) v):v=.agg cs.toArray:=by
 obtain⟨xs,rfl,h⟩:=h
 congr 2
 induction cs generalizing xs with
 | nil=>exact List.length_eq_zero_iff.1 (by simpa using h.1.symm)
 | cons c cs ih=>
  obtain⟨x,ys,rfl,h1,h2⟩:=h.head
  rw[h1.cell_eq,ih ys h2]
theorem Q4X{x y:Operand}{op:BinOp}{t t':TypeId}{cs ds:List Value}{r:Value}(ho:o.op=.binOp op t x y t')(hx:Kn T x (.part (.many (cs.map .cell))))(hy:Kn T y (.part (.many (ds.map .cell))))(h:GO P op t (.agg cs.toArray) (.agg ds.toArray) r):LStep P cx B R o T (.is r):=LStep.same fun M V w a _ hk=>by
 have h1:=JG (hk x _ (by simp[ho,Op.operands]) hx)
 have h2:=JG (hk y _ (by simp[ho,Op.operands]) hy)
 refine⟨r,?_,.cell r⟩
 have:=h x y w
 unfold execOp
 simp only[ho,h1,h2]
 rw[Sem.run_bind,this]
 rfl
end
end
section
theorem Cap.ren_id(c:Cap):c.ren (fun b=>b)=c:=by cases c<;>rfl
theorem P3(l:List Cap):l.map (Cap.ren fun b=>b)=l:=by
 induction l with
 | nil=>rfl
 | cons c l ih=>rw[List.map_cons,ih,Cap.ren_id]
theorem IV.ren_id(x:IV):x.ren (fun b=>b) (fun r=>r)=x:=by
 induction x with
 | opt g x ih=>unfold IV.ren;rw[ih]
 | clo fn fs cs=>unfold IV.ren;rw[P3,P3]
 | _=>rfl
theorem JH(l:List IV):l.map (·.ren (fun b=>b) (fun r=>r))=l:=by
 induction l with
 | nil=>rfl
 | cons c l ih=>rw[List.map_cons,ih,IV.ren_id]
theorem VU(B:BL):LU (fun b=>b) (fun r=>r) B=B:=by
 unfold LU
 induction B with
 | nil=>rfl
 | cons x B ih=>rw[List.map_cons,ih,JH]
theorem VK(R:RL):NJ (fun r=>r) R=R:=by
 unfold NJ
 induction R with
 | nil=>rfl
 | cons x B ih=>rw[List.map_cons,ih]
def LentI(B:BL)(R:RL)(B0:BL)(R0:RL):Prop:=(∀ b x,lk b B0=some x->lk b B=some x) /\ ∀ r x,lk r R0=some x->lk r R=some x
theorem LentI.lent{B:BL}{R:RL}{B0:BL}{R0:RL}(h:LentI B R B0 R0):Lent B R (fun b=>b) (fun r=>r) B0 R0:=⟨fun b x hx=>by rw[JH];exact h.1 b x hx,h.2,fun _ _ _ _ e=>e,fun _ _ _ _ e=>e⟩
def LentB(B:BL):BL->Prop
 | []=>True
 | (b,x)::l=>lk b B=some x/\LentB B l
def LentR(R:RL):RL->Prop
 | []=>True
 | (r,x)::l=>lk r R=some x/\LentR R l
theorem LentB.get{B:BL}:∀ {B0:BL} (_:LentB B B0) {b:Nat} {x:Bx},lk b B0=some x->lk b B=some x
 | (c,y)::l,h,b,x,hx=>by
  rcases AK hx with⟨rfl,rfl⟩ | ⟨_,hx⟩
  ·exact h.1
  ·exact LentB.get h.2 hx
 | [],_,_,_,hx=>by cases hx
theorem LentR.get{R:RL}:∀ {R0:RL} (_:LentR R R0) {b:Nat} {x:Rw},lk b R0=some x->lk b R=some x
 | (c,y)::l,h,b,x,hx=>by
  rcases AK hx with⟨rfl,rfl⟩ | ⟨_,hx⟩
  ·exact h.1
  ·exact LentR.get h.2 hx
 | [],_,_,_,hx=>by cases hx
section
variable{P:Program}{cx:Cx}{T:TL}{B:BL}{R:RL}{o:Oper}
def H0(B0:BL)(R0:RL)(y:IV)(B1:BL)(R1:RL):Prop:=names B1=names B0/\names R1=names R0/\Q5c (names B0) (names R0) B1=true/\y.bin (names B0) (names R0)=true
theorem AH{ops:Array Oper}{Q:Exit->Act->World->Prop}{l:List Oper}{d:Nat}{f:FuncId}{xs:List Operand}{ts:Array TypeId}{ys:List IV}{B0:BL}{R0:RL}{Y:IV->BL->RL->Prop}(hg:o.guard=none)(hd:o.dst=some d)(hn:Nat.blt d cx.n=true)(ho:o.op=.call { callee:=.value (.func f),args:=xs.toArray,argTypes:=ts })(hc:BU P f=true)
  (hf:EG P cx.gl f ys B0 R0 Y) (hB:LentB B B0) (hR:LentR R R0) (hx:KnX T xs ys) (hY:∀ y B1 R1,Y y B1 R1->H0 B0 R0 y B1 R1)
  (hE:∀ y B1 R1,Y y B1 R1->E cx ((d,y)::I4 (names R0) T) (B1++EI (names R0) B) (R1++R) (wpList P ops Q l)):E cx T B R (wpList P ops Q (o::l)):=
 Q6n (fun b=>b) (fun r=>r) hg hd hn ho hc (LentI.lent ⟨fun _ _ h=>hB.get h,fun _ _ h=>hR.get h⟩) (by rw[JH];exact hx) hf hY fun y B1 R1 hy=>by
  rw[IV.ren_id,VU,VK,List.map_id']
  exact hE y B1 R1 hy
theorem F9{ops:Array Oper}{Q:Exit->Act->World->Prop}{l:List Oper}{d:Nat}{f:FuncId}{x:Operand}{xs:List Operand}{ts:Array TypeId}{fs cs:List Cap}{zs ys:List IV}{B0:BL}{R0:RL}{Y:IV->BL->RL->Prop}(hg:o.guard=none)(hd:o.dst=some d)(hn:Nat.blt d cx.n=true)(ho:o.op=.call { callee:=.value x,args:=xs.toArray,argTypes:=ts })(hc:BU P f=true)
  (hf:EG P cx.gl f ys B0 R0 Y) (hB:LentB B B0) (hR:LentR R R0) (hx:Kn T x (.clo (.func f) fs cs)) (hxs:KnX T xs zs) (hys:ys=fs.map Cap.iv++zs++cs.map Cap.iv) (hY:∀ y B1 R1,Y y B1 R1->H0 B0 R0 y B1 R1)
  (hE:∀ y B1 R1,Y y B1 R1->E cx ((d,y)::I4 (names R0) T) (B1++EI (names R0) B) (R1++R) (wpList P ops Q l)):E cx T B R (wpList P ops Q (o::l)):=
 Q6q (fun b=>b) (fun r=>r) hg hd hn ho hc (LentI.lent ⟨fun _ _ h=>hB.get h,fun _ _ h=>hR.get h⟩) hx hxs (by rw[JH];exact hys) hf hY fun y B1 R1 hy=>by
  rw[IV.ren_id,VU,VK,List.map_id']
  exact hE y B1 R1 hy
abbrev ER(P:Program)(gls:List (Nat×List Value))(f:FuncId)(ds:List Dat)(ps:List Part)(cs:List Value):Prop:=EG P gls f (.ref ds::ps.map .part) [] [] fun y B1 R1=>y=.part (.many (cs.map .cell))/\B1=[]/\R1=[]
theorem J9(w:World)(D:Nat->Prop)(cs:List Value):Fits w D (cs.map .cell) cs:=by
 induction cs with
 | nil=>exact Fits.nil _ _
 | cons c cs ih=>exact .cons (.cell c) ih
theorem Q4a{w:World}{D:Nat->Prop}{M:Nat->Nat}{V:Nat->Value}:∀ {ps:List Part} {vs:List Value},PsFit w D ps vs->VRs w D M V (ps.map .part) vs
 | [],[],_=>trivial
 | _::_,_::_,h=>⟨h.1,Q4a h.2⟩
 | [],_::_,h=>h.elim
 | _::_,[],h=>h.elim
theorem QI{M:Nat->Nat}{V:Nat->Value}{g:Nat}:¬ Bor [] [] M V g:=fun h=>by
 rcases h with⟨_,_,h,_⟩ | ⟨_,_,h,_⟩<;>cases h
theorem QH{f:FuncId}{x:Operand}{xs:List Operand}{ts:Array TypeId}{b:Nat}{bx:Bx}{ds:List Dat}{ps:List Part}{cs:List Value}(ho:o.op=.call { callee:=.value (.func f),args:=(x::xs).toArray,argTypes:=ts })(hc:BU P f=true)(hf:ER P cx.gl f ds ps cs)(hx:Kn T x (.box b 0))(hb:lk b B=some bx)(hm:manyOf bx.cs=some ds)(hxs:KnA T xs ps):LStep P cx B R o T (.part (.many (cs.map .cell))):=fun M V w a hh ht=>by
 have hkk:∀ y z,y∈x::xs->Kn T y z->VR w (Dc cx B R M V w) M V z (a.eval y):=fun y z hm hkx=>hkx w _ M V a fun t z' e hz=>ht t z' (by
  subst e
  rw[ho]
  simpa[Op.operands,Call.operands]using hm) hz
 have hrun:(execOp a.eval o).run P w=.ok (.enter f ((x::xs).map a.eval).toArray) w:=by
  have he:a.eval (.func f)=.func (.func f) #[] #[]:=rfl
  simp[execOp,ho,resolve,he,Deferred.ofValue,invoke,C2 hc]
 rw[hrun]
 have hxv:a.eval x=.pointer (some ⟨M b,0,none⟩):=hkk x _ (by simp) hx
 obtain⟨hown,cells,hblk,hfit⟩:=hh.box b bx hb
 have hlt:=hblk.lt
 have hD:∀ g,Dc cx B R M V w g->g<w.heap.size:=fun g hg=>hh.dlt hg
 have hps:PsFit w (Dc cx B R M V w) ps (xs.map a.eval):=hxs.fit fun y z hm hkx=>hkk y z (by simp[hm]) hkx
 have hcells:Fits w (Dc cx B R M V w) ds cells:=G0 hm hfit.1 fun j y v h1 h2=>(hfit.2 j y v h1 h2).1
 let D':Nat->Prop:=fun g=>Dc cx B R M V w g\/g=M b
 have hk:=Keeps.refl (Dc cx B R M V w) w
 have hD':∀ g,D' g->g<w.heap.size:=fun g hg=>by
  rcases(show Dc cx B R M V w g\/g=M b from hg)with hg | rfl
  ·exact hD g hg
  ·exact hlt
 have hHR:HR (lcx w D' 0 cx.gl [] [] M V) [] [] M V w:=
  ⟨Bex.refl _ _,fun g hg=>⟨hD' g hg,QI⟩,fun g h=>(QI h).elim,fun g cs hg=>⟨⟨(hh.glok g cs hg).1,QI⟩,(hh.glok g cs hg).2⟩,fun _ _ h=>(by cases h),fun _ _ h=>(by cases h),fun _ _ _ h=>(by cases h),fun _ h=>(by cases h),fun _ _ _ _ h=>(by cases h),fun _ _ _ _ _ h=>(by cases h),fun _ _ _ _ _ h=>(by cases h)⟩
 have hVR:VRs w (Dc (lcx w D' 0 cx.gl [] [] M V) [] [] M V w) M V (.ref ds::ps.map .part) ((x::xs).map a.eval):=by
  refine⟨⟨M b,0,hxv,.inl (.inr rfl),cells,hcells.stay hk fun g hg=>.inl (.inl hg),fun j v hv=>?_⟩,(Q4a hps).stay hk fun g hg=>.inl (.inl hg)⟩
  rw[Nat.zero_add,hblk.cell]
  exact hv
 refine⟨rfl,(hf w D' M V _ 0 hHR hVR).mono fun e w' ⟨v,y,B1,R1,M1,V1,h1,⟨h2,_,_⟩,h4,h5⟩=>?_⟩
 subst h2
 have hbl:Below w.heap.size w w':=by
  have h6:=h4.below
  have h7:Bex (fun _=>False) w w':=⟨h6.os,h6.tape,h6.output,h6.size,fun k hk _=>h6.block k hk QI⟩
  exact h7.below
 have h8:=JG h5
 exact⟨v,h1,hbl,⟨cs,h8,J9 _ _ _⟩⟩
end
end
section
section
variable{P:Program}{cx:Cx}{T:TL}{B:BL}{R:RL}{o:Oper}
theorem PN(w:World)(t u ty e:TypeId)(ht:P.underlying t=some (.slice e))(hu:P.underlying u=some .string)(hz:(P.info? e).map (fun i=>(i.zero,i.size,i.bytes))=some (some (.int .u8 0),1,1))(v:Value)(n:Nat)(xs:List Value)(hown:w.ownsRow 0 e 1 v n xs)(s:ByteArray)(hs:n+s.size<=140737488355328):
  ∃ v' w',(Builtin.append_ #[t,u] ty #[v,.string s]).run P w=.ok v' w'/\w'.ownsRow 0 e 1 v' (n+s.size) (xs++Lib.strCells s)/\w.grownBy w' v.ownBlock/\(v'.ownBlock=v.ownBlock\/v'.ownBlock=some w.heap.size):=by
 obtain⟨i,hi,hi2⟩:=Option.map_eq_some_iff.1 hz
 simp only[Prod.mk.injEq]at hi2
 obtain⟨z1,z2,z3⟩:=hi2
 obtain⟨v',w',h1,h2,h3,h4⟩:=Lib.run_append_own_string (P:=P) w 0 t u ty e i ht hu hi z1 z2 z3 v n xs hown s (by unfold maxLen;omega) hs (Nat.zero_le _)
 refine⟨v',w',h1,h2,h3,?_⟩
 have hxl:xs.length=n:=by simpa using hown.1
 rcases hown.2 with⟨rfl,rfl⟩ | ⟨g,cap,cur,rfl,_,hg,hnc,hcm,hcs,htake⟩
 ·by_cases hm:s.size=0
  ·rw[h4.2 ⟨rfl,hm⟩]
   exact .inl rfl
  ·have hr:=run_append_nil_string (P:=P) w t u ty e i (.int .u8 0) ht hu hi z1 s (by omega) (by omega) (by rw[z3];omega)
   rw[h1]at hr
   injection hr with hv _
   rw[hv]
   exact .inr rfl
 ·by_cases hroom:n+s.size<=cap
  ·have hr:=Lib.run_append_room_string (P:=P) w t u ty e i ht hu hi z2 g n cap cur hg s hroom (by simp at hcs;omega)
   rw[h1]at hr
   injection hr with hv _
   rw[hv]
   exact .inl rfl
  ·have holds:∀ j u,xs[j]?=some u->w.cell? ((⟨g,0,none⟩:Addr).add j)=some u:=hown.cells (g:=g) rfl
   have hr:=Lib.run_append_grow_string (P:=P) w t u ty e i (.int .u8 0) ht hu hi z1 ⟨g,0,none⟩ n cap xs (by rw[z2];simpa using hxl) holds s (by omega) (by omega) (by rw[z3];exact growslice_fits (by omega) (by omega))
   rw[h1]at hr
   injection hr with hv _
   rw[hv]
   exact .inr rfl
theorem WJ{ops:Array Oper}{Q:Exit->Act->World->Prop}{l:List Oper}{d:Nat}{x y:Operand}{t u:TypeId}{r n:Nat}{ty:TypeId}{ds:List Dat}{s:List UInt8}(hg:o.guard=none)(hd:o.dst=some d)(hn:Nat.blt d cx.n=true)(ho:o.op=.call { callee:=.builtin .append,args := #[x,y],argTypes := #[t,u] })(hx:Kn T x (.own r))(hr:lk r R=some ⟨ty,1,n,ds,false⟩)(hy:Kn T y (.is (.string (str s))))
  (ht:P.underlying t=some (.slice ty)) (hu:P.underlying u=some .string) (hz:(P.info? ty).map (fun i=>(i.zero,i.size,i.bytes))=some (some (.int .u8 0),1,1)) (hb1:n+s.length<=140737488355328)
  (hE:E cx ((d,.own r)::RA r T) (NS r B) ((r,⟨ty,1,n+s.length,ds++s.map fun b=>.cell (bv b),false⟩)::R) (wpList P ops Q l)) (hty:Nat.blt ty 1000000=true:=by rfl):E cx T B R (wpList P ops Q (o::l)):=fun M V a w hrel=>by
 refine wpList_plain hg fun K hK=>?_
 have hh:=hrel.heap
 have hxv:a.eval x=V r:=hx w (Dc cx B R M V w) M V a fun t z _ hz=>hrel.tmp t z hz
 have hyv:a.eval y=.string (str s):=Lies.cell_eq (hy w (Dc cx B R M V w) M V a fun t z _ hz=>hrel.tmp t z hz)
 have hrow:=hh.row r _ hr
 obtain⟨xs,hown,hfx⟩:Gr w (Dc cx B R M V w) 0 ty 1 (V r) n ds:=Gx.row hrow hty
 have hsz:(str s).size=s.length:=BM s
 have hcells:Lib.strCells (str s)=s.map bv:=by
  unfold Lib.strCells str bv
  simp
 obtain⟨v',w',hrun,hown',hgr,hblk⟩:=PN (P:=P) w t u o.type ty ht hu hz (V r) n xs hown (str s) (by omega)
 rw[hsz,hcells]at hown'
 rw[<- D5 hown,<- D5 hown']at hblk
 rw[<- D5 hown]at hgr
 have hfe:Fits w (Dc cx B R M V w) (s.map fun b=>.cell (bv b)) (s.map bv):=by
  have:=J9 w (Dc cx B R M V w) (s.map bv)
  rwa [List.map_map]at this
 obtain⟨V',_,hrel'⟩:=hrel.grown (z':=⟨ty,1,n+s.length,ds++s.map fun b=>.cell (bv b),false⟩) (d:=d) hr rfl rfl hgr (fun g hg=>by
  have h1:=L7 hg (DH hty)
  rcases hblk with h | h
  ·exact .inl (.inl (h▸h1))
  ·rw[h]at h1
   exact .inr (by simpa using h1.symm)) (fun D' hk hD=>⟨_,.inl ⟨hty,hown'⟩,.inl ⟨DH hty,(hfx.append hfe).stay hk hD⟩⟩) hn
 have:=hK _ _ (hE M V' _ _ hrel')
 unfold Oper.wp execOp
 simp only[ho,resolve,invoke,builtin,Sem.run_bind,Sem.run_pure,Result.andThen_ok,List.map_toArray,List.map_cons,List.map_nil,hxv,hyv,hrun]
 simp only[Oper.upon,hd]
 exact this
theorem O9{w:World}{g:Nat}{t:TypeId}{cs:List Value}(h:Blk w g t cs):w.shape? g=some (t,cs.length):=by
 unfold Blk at h
 simp[World.shape?,h]
theorem Q7V{x:Operand}{src dst t:TypeId}{b:Nat}{bx:Bx}(ho:o.op=.convert src dst x)(hx:Kn T x (.box b 0))(hb:lk b B=some bx)(hs:P.underlying src=some (.pointer t))(hd:P.underlying dst=some .unsafePointer)(hz:(P.info? t).map (fun i=>Nat.beq i.size 0)=some false)(hl:Nat.blt 0 bx.cs.length=true):LStep P cx B R o T (.box b 0):=LStep.same fun M V w a hh hk=>by
 have h1:a.eval x=.pointer (some ⟨M b,0,none⟩):=hk x _ (by simp[ho,Op.operands]) hx
 obtain⟨_,cells,hblk,hfit⟩:=hh.box b bx hb
 obtain⟨j,hj,hj2⟩:=Option.map_eq_some_iff.1 hz
 have hlen:0<cells.length:=by rw[<- hfit.1];exact C0 hl
 have h2:=Lib.run_to_unsafe (P:=P) (w:=w) ⟨M b,0,none⟩ hs hd hj (fun e=>by rw[e]at hj2;cases hj2) (O9 hblk) hlen
 exact⟨_,by simp[execOp,ho,h1,h2],rfl⟩
theorem Q5I{x:Operand}{src dst u:TypeId}{b:Nat}{bx:Bx}(ho:o.op=.convert src dst x)(hx:Kn T x (.box b 0))(hb:lk b B=some bx)(hs:P.underlying src=some .unsafePointer)(hd:P.underlying dst=some (.pointer u))(hz:(P.info? u).isSome=true)(hl:liesAt P P.depth bx.ty (bx.cs.length / P.cellsOf bx.ty) 0 u 1=true):LStep P cx B R o T (.box b 0):=LStep.same fun M V w a hh hk=>by
 have h1:a.eval x=.pointer (some ⟨M b,0,none⟩):=hk x _ (by simp[ho,Op.operands]) hx
 obtain⟨_,cells,hblk,hfit⟩:=hh.box b bx hb
 obtain⟨j,hj⟩:=Option.isSome_iff_exists.1 hz
 have h2:=Lib.run_from_unsafe (P:=P) (w:=w) ⟨M b,0,none⟩ hs hd hj (O9 hblk) (by rw[<- hfit.1];exact hl)
 exact⟨_,by simp[execOp,ho,h1,h2],rfl⟩
theorem Q6Z{f:FuncId}{x:Operand}{ts:Array TypeId}{y:IV}(ho:o.op=.call { callee:=.value (.func f),args := #[x],argTypes:=ts })(hf:∀ (v:Value) (w:World),(callFunc f #[v]).run P w=.ok (.value v) w)(hx:Kn T x y):LStep P cx B R o T y:=LStep.same fun M V w a _ hk=>by
 have h1:=hk x _ (by simp[ho,Op.operands,Call.operands]) hx
 have he:a.eval (.func f)=.func (.func f) #[] #[]:=rfl
 exact⟨_,by simp[execOp,ho,resolve,he,Deferred.ofValue,invoke,hf],h1⟩
theorem Q40{t te:TypeId}(p:Addr)(hp:P.underlying t=some (.pointer te))(hz:(P.info? te).isSome=true):GO P .neq t (.pointer (some p)) (.pointer (some p)) (.bool false):=fun x y w=>by
 obtain⟨j,hj⟩:=Option.isSome_iff_exists.1 hz
 rw[Sem.run_bind,show(eqGuard .neq t x y (.pointer (some p)) (.pointer (some p))).run P w=.ok () w by simp[eqGuard],Result.andThen_ok]
 exact Lib.run_neq_ptr_same (P:=P) (w:=w) p hp hj
theorem Y6{t:TypeId}(p:Option Addr)(h:P.underlying t=some (.pointer (P.pointee t))):GO P .eql t (.pointer p) (.pointer none) (.bool p.isNone):=fun x y w=>by
 rw[Sem.run_bind,show(eqGuard .eql t x y (.pointer p) (.pointer none)).run P w=.ok () w by simp[eqGuard],Result.andThen_ok]
 exact run_eql_pointer_nil (P:=P) w t p h
theorem Q1f{x y:Operand}{op:BinOp}{t t':TypeId}{r:Value}(ho:o.op=.binOp op t x y t')(h:∀ (M:Nat->Nat) (V:Nat->Value) (w:World) (a:Act),(∀ z u,z∈o.op.operands->Kn T z u->VR w (Dc cx B R M V w) M V u (a.eval z))->GO P op t (a.eval x) (a.eval y) r):LStep P cx B R o T (.is r):=LStep.same fun M V w a _ hk=>by
 refine⟨r,?_,.cell r⟩
 have:=h M V w a hk x y w
 unfold execOp
 simp only[ho]
 rw[Sem.run_bind,this]
 rfl
theorem Q3t{x y:Operand}{t t' te:TypeId}{b:Nat}(ho:o.op=.binOp .neq t x y t')(hx:Kn T x (.box b 0))(hy:Kn T y (.box b 0))(hp:P.underlying t=some (.pointer te))(hz:(P.info? te).isSome=true):LStep P cx B R o T (.is (.bool false)):=Q1f ho fun M V w a hk=>by
 have h1:a.eval x=.pointer (some ⟨M b,0,none⟩):=hk x _ (by simp[ho,Op.operands]) hx
 have h2:a.eval y=.pointer (some ⟨M b,0,none⟩):=hk y _ (by simp[ho,Op.operands]) hy
 rw[h1,h2]
 exact Q40 _ hp hz
theorem Q3b{x:Operand}{t t':TypeId}(ho:o.op=.binOp .eql t x (.const (.pointer none)) t')(hx:Kn T x (.is (.pointer none)))(hp:P.underlying t=some (.pointer (P.pointee t))):LStep P cx B R o T (.is (.bool true)):=Q1f ho fun M V w a hk=>by
 have h1:=(hk x _ (by simp[ho,Op.operands]) hx).is_eq
 rw[h1]
 exact Y6 none hp
theorem Q2u{x:Operand}{t t':TypeId}{b j:Nat}(ho:o.op=.binOp .eql t x (.const (.pointer none)) t')(hx:Kn T x (.box b j))(hp:P.underlying t=some (.pointer (P.pointee t))):LStep P cx B R o T (.is (.bool false)):=Q1f ho fun M V w a hk=>by
 have h1:a.eval x=.pointer (some ⟨M b,j,none⟩):=hk x _ (by simp[ho,Op.operands]) hx
 rw[h1]
 exact Y6 (some _) hp
end
end
section
section
variable{P:Program}{ops:Array Oper}{md:Region.Mode}{C:World->Prop}{R:World->World->Prop}
theorem R4{ks:Nat->Kind}{n i:Nat}{oi:Oper}{L:Array Bool->List C9->Act->Prop}(hLm:∀ listed G G' a,(∀ f∈G,f∈G')->L listed G a->L listed G' a)(hi:ops[i]?=some oi)
  (hsel:∀ (j:Nat) (o:Oper) cs b,ops[j]?=some o->o.op≠.select cs b)
  {Inv:Array Bool->Prop} (hset:∀ listed i,Inv listed->i∈Region.ready md ops listed->i<n->Inv (listed.setIfInBounds i true)) (hwait:∀ listed,Inv listed -> ∀ i,i<n->listed.getD i true=false -> ∀ t,n<=t->t∉Region.ready md ops listed) (hin:i<n)
  (hdone:∀ listed G a,L listed G a -> ∀ j∈Region.ready md ops listed,n<=j):
  ∀ (fuel:Nat) (listed:Array Bool) (G:List C9) (a:Act),Inv listed ->
   (∀ j oj,ops[j]?=some oj->j≠i->listed.getD j true=false->(∀ e∈oj.after,Region.binds md e=true->e.on≠i)->oi.apart ops oj=true) ->
   i∈Region.ready md ops listed->AskT P ops R C oi (ks i) G a ->
   (∀ v,(ks i).ok v->FF P md ops R C ks n L fuel (listed.setIfInBounds i true) ((oi.dst,(ks i).pred v)::G) (a.put oi.dst v))->FF P md ops R C ks n L (fuel+1) listed G a:=by
 intro fuel
 induction fuel with
 | zero=>
  intro listed G a inv _ hr hy H
  have hun:=(mem_ready.1 hr).1
  refine⟨fun h=>(by rw[h]at hr;cases hr),fun j hj=>?_⟩
  have hjn:j<n:=by
   rcases Nat.lt_or_ge j n with h | h
   ·exact h
   ·exact absurd hj (hwait _ inv i hin hun j h)
  refine⟨hjn,fun o ho=>?_⟩
  by_cases hji:j=i
  ·subst hji
   rw[hi]at ho;cases ho
   exact⟨hy,H⟩
  ·have:=hdone _ _ _ (H _ (ks i).ok_pick) j (ready_mono hj hji)
   omega
 | succ fuel ih=>
  intro listed G a inv hfree hr hy H
  have hun:=(mem_ready.1 hr).1
  refine⟨fun h=>(by rw[h]at hr;cases hr),fun j hj=>?_⟩
  have hjn:j<n:=by
   rcases Nat.lt_or_ge j n with h | h
   ·exact h
   ·exact absurd hj (hwait _ inv i hin hun j h)
  refine⟨hjn,fun o ho=>?_⟩
  by_cases hji:j=i
  ·subst hji
   rw[hi]at ho;cases ho
   exact⟨hy,H⟩
  ·have hjun:=(mem_ready.1 hj).1
   obtain⟨a1,a2,a3⟩:=Oper.apart_spec (hfree j o ho hji hjun (JI hr hj ho))
   have hjr:=ready_mono hj hji
   refine⟨(AskT.put (hsel j o · · ho) a1).1 (((H _ (ks i).ok_pick).2 j hjr).2 o ho).1,fun u hu=>?_⟩
   refine ih (listed.setIfInBounds j true) _ _ (hset _ _ inv hj hjn) (fun k ok hk hki hun hno=>hfree k ok hk hki (Decidable.byCases (fun h:j=k=>by rw[<- h];exact hjun) fun h=>by rwa [getD_set_ne true h]at hun) hno) (ready_mono hr (Ne.symm hji)) ((AskT.put (hsel i oi · · hi) a3).2 hy) fun v hv=>?_
   have h2:=(((H v hv).2 j hjr).2 o ho).2 u hu
   rw[Array.setIfInBounds_comm _ _ hji,<- Act.put_comm a v u a2]
   refine J8 hLm fuel _ _ _ _ (fun f hf=>?_) h2
   simp only[List.mem_cons]at hf ⊢
   rcases hf with h | h | h
   ·exact .inr (.inl h)
   ·exact .inl h
   ·exact .inr (.inr h)
theorem NW{ks:Nat->Kind}{n g:Nat}{Q:List C9->Act->Prop}(hQ:∀ G G' a,(∀ f∈G,f∈G')->Q G a->Q G' a)(hsel:Region.noSelect ops=true){Inv:Array Bool->Prop}(hset:∀ listed i,Inv listed->i∈Region.ready md ops listed->i<n->Inv (listed.setIfInBounds i true))(hwait:∀ listed,Inv listed -> ∀ i,i<n->listed.getD i true=false -> ∀ t,n<=t->t∉Region.ready md ops listed):
  ∀ (l:List Oper) (kl:List Kind) (k:Nat) (listed:Array Bool) (G:List C9) (a:Act),(∀ j,j<l.length->l[j]?=ops[k+j]?)->(∀ (j:Nat) x,kl[j]?=some x->ks (k+j)=x)->k+l.length=n->Inv listed ->
  Region.lexHead md ops g l.length k listed=true->wpT P ops R C Q l kl G a ->
  FF P md ops R C ks n (fun listed' G' a'=>Region.seqB md ops g n listed'=true/\Q G' a') l.length listed G a
 | [],_,k,listed,G,a,_,_,hk,_,hB,h=>by
  have:k=n:=by simpa using hk
  subst this
  exact⟨by simpa[Region.lexHead]using hB,h⟩
 | _::_,[],_,_,_,_,_,_,_,_,_,h=>h.elim
 | o::l,x::kl,k,listed,G,a,hl,hx,hk,inv,hB,h=>by
  have h0:ops[k]?=some o:=by simpa using(hl 0 (by simp)).symm
  have hx0:ks k=x:=by simpa using hx 0 x (by simp)
  simp only[List.length_cons,Region.lexHead,Bool.and_eq_true]at hB
  obtain⟨⟨hr,hf⟩,hB'⟩:=hB
  have hkn:k<n:=by simp only[List.length_cons]at hk;omega
  have hr':k∈Region.ready md ops listed:=by simpa using hr
  obtain⟨h1,h2⟩:=h
  refine R4 (fun listed G G' a hG h=>⟨h.1,hQ _ _ _ hG h.2⟩) h0 (Region.noSelect_spec hsel) hset hwait hkn (fun listed' G' a' hL=>seqB_ready hL.1) l.length listed G a inv (Region.free_spec h0 hf) hr' (by rw[hx0];exact h1) fun v hv=>?_
  rw[hx0]at hv ⊢
  exact NW hQ hsel hset hwait l kl (k+1) _ _ _ (fun j hj=>by have:=hl (j+1) (by simp;omega);simpa[Nat.add_assoc,Nat.add_comm 1 j]using this)
   (fun j x' hj=>by have:=hx (j+1) x' (by simpa using hj);simpa[Nat.add_assoc,Nat.add_comm 1 j]using this) (by simp only[List.length_cons]at hk;omega) (hset _ _ inv hr' hkn) hB' (h2 v hv)
def BZ(ops:Array Oper)(n:Nat):Array Oper:=ops.modify n fun o=>{ o with after:=o.after.push { on:=0,ground:=.phase } }
def Q0k(ops:Array Oper)(n:Nat):Bool:=
  Region.noSelect ops&&decide (1<n)&&decide (n<ops.size)&&Region.sinkB .any (BZ ops n) n&&Region.chainB .any (BZ ops n) n&&Region.lexHead .any ops (ops.size-n) (n-1) 1 ((Array.replicate ops.size false).setIfInBounds 0 true) &&
  (match ops[0]? with
   | some o0=>o0.after.all (fun e => !Region.binds .any e)&&(List.range ops.size).all fun j=>j==0||Region.waitsFor .any ops j 0||(match ops[j]? with | some oj=>o0.apart ops oj | none=>true)
   | none=>false)
theorem DD(ops:Array Oper)(n:Nat):(BZ ops n).size=ops.size:=by simp[BZ]
theorem DV{n j:Nat}(h:j≠n):(BZ ops n)[j]?=ops[j]?:=by
 unfold BZ
 rw[Array.getElem?_modify,if_neg (Ne.symm h)]
theorem H4{n:Nat}{o:Oper}(h:ops[n]?=some o):(BZ ops n)[n]?=some { o with after:=o.after.push { on:=0,ground:=.phase } }:=by
 unfold BZ
 rw[Array.getElem?_modify,if_pos rfl,h]
 rfl
structure FloatInv (md:Region.Mode) (ops:Array Oper) (n:Nat) (listed:Array Bool):Prop where
 head:HeadInv md ops n listed
 zero:listed.getD 0 false=true
theorem FloatInv.wait{n:Nat}{listed:Array Bool}(hs:Region.sinkB md (BZ ops n) n=true)(hc:Region.chainB md (BZ ops n) n=true)(hn:n<ops.size)(inv:FloatInv md ops n listed):∀ i,i<n->listed.getD i true=false -> ∀ t,n<=t->t∉Region.ready md ops listed:=fun i hi hun t ht hr=>by
 have hnl:listed.getD n false=false:=getD_both (inv.head.tail n (Nat.le_refl _) hn)
 have inv':HeadInv md (BZ ops n) n listed:=⟨by rw[DD];exact inv.head.size,fun j oj hj hl e he hb=>by
  have hjn:j≠n:=fun e=>by
   subst e
   rw[hnl]at hl
   cases hl
  rw[DV hjn]at hj
  exact inv.head.closed j oj hj hl e he hb,fun t h1 h2=>inv.head.tail t h1 (by rwa [DD]at h2)⟩
 refine tail_waits hs hc (by rwa [DD]) inv' _ i rfl hi hun t ht ?_
 obtain⟨h1,o,ho,hall⟩:=mem_ready.1 hr
 refine mem_ready.2 ⟨h1,?_⟩
 by_cases htn:t=n
 ·subst htn
  refine⟨_,H4 ho,fun e he hb=>?_⟩
  rcases Array.mem_push.1 he with he | rfl
  ·exact hall e he hb
  ·exact inv.zero
 ·exact⟨o,by rw[DV htn];exact ho,hall⟩
theorem PL{id:Nat}{Q:Exit->Act->World->Prop}{a:Act}{w:World}{l:List Oper}(n:Nat)(C:World->Prop)(R:World->World->Prop)(kl:List Kind){o0:Oper}{v:Value}(hm:P.follows .mixedOrders=true)
  (hB:Q0k l.toArray n=true) (ho:l.toArray[0]?=some o0) (hy:Yields P l.toArray o0 v a) (hQ:∀ c a w,Q (.panic c) (a.put o0.dst v) w->Q (.panic c) a w) (hC:CV R C) (hks:AllStay R kl) (h0:C w.drew)
  (h:wpT P l.toArray R C (fun G a'=>∀ w',C w'->(∀ f∈G,f.2 w')->wpList P l.toArray Q (l.drop n) a' w') ((l.take n).drop 1) kl [] (a.put o0.dst v)):(Code.region id l.toArray true).wp P Q a w:=by
 simp only[Q0k,Bool.and_eq_true,decide_eq_true_eq,ho]at hB
 obtain⟨⟨⟨⟨⟨⟨hsel,hn1⟩,hn⟩,hs⟩,hc⟩,hlex⟩,hd0,hap⟩:=hB
 have hn':n<l.length:=by simpa using hn
 have htl:((l.take n).drop 1).length=n-1:=by simp;omega
 have hdl:(l.drop n).length=l.toArray.size-n:=by simp
 have hl0:0<l.length:=by omega
 have hrep:(Array.replicate l.toArray.size false).getD 0 true=false:=by
  simp[hl0]
 have hr0:0∈Region.ready .any l.toArray (Array.replicate l.toArray.size false):=mem_ready.2 ⟨hrep,o0,ho,fun e he hb=>by
  have:=Array.all_eq_true_iff_forall_mem.1 hd0 e he
  rw[hb]at this
  cases this⟩
 have inv00:HeadInv .any l.toArray n (Array.replicate l.toArray.size false):=
  ⟨by simp,fun j oj _ hl=>(by rw[getD_replicate_false]at hl;cases hl),fun t _ ht=>getD_in (by simpa using ht) (getD_replicate_false _ _)⟩
 have inv0:FloatInv .any l.toArray n ((Array.replicate l.toArray.size false).setIfInBounds 0 true):=⟨inv00.set hr0 (by omega),by simp[hl0]⟩
 have hks':∀ i v,CV R (((fun i=>kl.getD (i-1) (Kind.is undef)) i).pred v):=fun i v=>by
  simp only[List.getD]
  cases hk:kl[i-1]? with
  | none=>exact fun _ _ _ _=>trivial
  | some k=>exact hks.mem k (List.mem_of_getElem? hk) v
 have H:=NW (md:=.any) (ks:=fun i=>kl.getD (i-1) (Kind.is undef)) (g:=l.toArray.size-n) (Inv:=FloatInv .any l.toArray n) (fun G G' a' hG h w' hw hF=>h w' hw fun f hf=>hF f (hG f hf)) hsel
  (fun listed i inv hi hin=>⟨inv.head.set hi hin,getD_set_true inv.zero⟩) (fun listed inv=>inv.wait hs hc hn) ((l.take n).drop 1) kl 1 _ [] (a.put o0.dst v) (fun j hj=>by
  have hj':1+j<n:=by rw[htl]at hj;omega
  rw[List.getElem?_drop,List.getElem?_take,if_pos hj',List.getElem?_toArray]) (fun j k hj=>by simp[List.getD,Nat.add_sub_cancel_left,hj]) (by rw[htl];omega) inv0 (by rw[htl];exact hlex) h
 refine wp_region_any hm ?_
 have hsz:l.toArray.size=(l.toArray.size-1)+1:=by simp;omega
 have K:=IM (Q':=Q) (g:=l.toArray.size-n) hC hks' (fun listed G a' w' hw hG hL=>by
  have:=wpAny_of_seq (md:=.any) (Q':=Q) (l.drop n) n listed a' w' (fun j=>by simp[List.getElem?_drop]) (by rw[hdl];exact hL.1) (hL.2 w' hw hG)
  rwa [hdl]at this) _ _ [] _ w.drew h0 (fun f hf=>by cases hf) (fun f hf=>by cases hf) H
 rw[htl,show n-1+(l.toArray.size-n)=l.toArray.size-1 by omega]at K
 have:=wpAny_first (v:=v) ho (Region.noSelect_spec hsel) hQ (l.toArray.size-1) (Array.replicate l.toArray.size false) a w.drew (fun j oj hj hj0 _ hno=>by
  have hlt:j<l.toArray.size:=(Array.getElem?_eq_some_iff.1 hj).1
  have h1:=List.all_eq_true.1 hap j (List.mem_range.2 hlt)
  simp only[Bool.or_eq_true,beq_iff_eq,hj]at h1
  rcases h1 with(h1 | h1) | h1
  ·exact absurd h1 hj0
  ·obtain⟨oj',hj',e,he,hb,hon⟩:=Region.waitsFor_spec h1
   rw[hj]at hj'
   obtain rfl:=Option.some.inj hj'
   exact absurd hon (hno e he hb)
  ·exact h1) hr0 hy K
 rwa [<- hsz]at this
end
end
section
section
variable{P:Program}{cx:Cx}{T T':TL}{B:BL}{R:RL}
theorem CD(n:Nat){id:Nat}{o0:Oper}{l:List Oper}{x:Operand}{d:Nat}{y:IV}{Q:Exit->Act->World->Prop}{ys:List IV}(hm:P.follows .mixedOrders=true)(hB:Q0k (o0::l).toArray n=true)(hg:o0.guard=none)(hd:o0.dst=some d)(hn:Nat.blt d cx.n=true)(ho:o0.op=.move x)(hx:Kn T x y)
  (hQ:∀ c a v w,Q (.panic c) (a.put (some d) v) w->Q (.panic c) a w) (hW:Walk P cx B R (o0::l).toArray (((o0::l).take n).drop 1) ((d,y)::T) ys T') (h:E cx T' B R (wpList P (o0::l).toArray Q ((o0::l).drop n))):
  E cx T B R ((Code.region id (o0::l).toArray true).wp P Q):=fun M V a w hr=>by
 have hxv:=hx w (Dc cx B R M V w) M V a fun t z _ hz=>hr.tmp t z hz
 have hr1:Rel cx ((d,y)::T) B R M V (a.put (some d) (a.eval x)) w:=hr.put (Below.refl _ _) (C0 hn) hxv
 have h0:Ct cx ((d,y)::T) B R M V (a.put (some d) (a.eval x)) w.drew:=Ct.stay w _ (Below.refl _ _).drew ⟨hr1.heap,hr1.tmp⟩
 refine PL n (Ct cx ((d,y)::T) B R M V (a.put (some d) (a.eval x))) Rb (ys.map (E6 cx B R M V)) (o0:=o0) (v:=a.eval x) hm hB rfl (.inl ⟨by simp[Region.wanted,hg],fun u=>by simp[execOp,ho]⟩) (fun c a' w' hq=>hQ c a' _ w' (by rw[hd]at hq;exact hq)) Ct.stay (F3 ys) h0 ?_
 rw[hd]
 refine hW.wpT (fun w h=>h.1) ⟨_,h0⟩ hr1.size hr1.defers (fun t x hx=>.inl fun w h=>h.2 t x hx) fun G' a' hn hd hG w' hc hF=>?_
 exact h M V a' w' (hG.rel (fun w h=>h.1) hn hd hc hF)
end
end
end Go.Proofs.YtgcphgdkddihcaaGreatDoor
