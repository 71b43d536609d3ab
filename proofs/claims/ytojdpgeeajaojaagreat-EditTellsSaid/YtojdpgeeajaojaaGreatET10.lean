/- Part 10. Conditions: as each theorem says. -/
import Derived.Test.YtojdpgeeajaojaaGreatET09
import Derived.Test.YtojdpgeeajaojaaGreatProg
import Derived.Laws.Entries
set_option maxRecDepth 100000
namespace Go.Proofs.YtojdpgeeajaojaaGreat
open Go.RowKit
theorem one_3:oneT Tryz.prog 3=true:=by kernel_rfl
theorem sz_3:sizeT Tryz.prog 3=some 1:=by kernel_rfl
theorem zr_3:C9 Tryz.prog 3=some [.int .i64 0]:=by kernel_rfl
theorem one_4:oneT Tryz.prog 4=true:=by kernel_rfl
theorem sz_4:sizeT Tryz.prog 4=some 1:=by kernel_rfl
theorem bool_4:Tryz.prog.underlying 4=some .bool:=by kernel_rfl
theorem one_9:oneT Tryz.prog 9=true:=by kernel_rfl
theorem sz_9:sizeT Tryz.prog 9=some 1:=by kernel_rfl
theorem str_9:Tryz.prog.underlying 9=some .string:=by kernel_rfl
theorem one_22:oneT Tryz.prog 22=true:=by kernel_rfl
theorem sz_22:sizeT Tryz.prog 22=some 1:=by kernel_rfl
theorem int_22:Tryz.prog.underlying 22=some (.int .u64):=by kernel_rfl
theorem one_23:oneT Tryz.prog 23=true:=by kernel_rfl
theorem sz_23:sizeT Tryz.prog 23=some 1:=by kernel_rfl
theorem sle_23:Tryz.prog.underlying 23=some (.slice (Tryz.prog.elem 23)):=by kernel_rfl
theorem esz_23:sizeT Tryz.prog (Tryz.prog.elem 23)=some 8:=by kernel_rfl
theorem one_24:oneT Tryz.prog 24=true:=by kernel_rfl
theorem sz_24:sizeT Tryz.prog 24=some 1:=by kernel_rfl
theorem sle_24:Tryz.prog.underlying 24=some (.slice (Tryz.prog.elem 24)):=by kernel_rfl
theorem esz_24:sizeT Tryz.prog (Tryz.prog.elem 24)=some 7:=by kernel_rfl
theorem one_25:oneT Tryz.prog 25=true:=by kernel_rfl
theorem sz_25:sizeT Tryz.prog 25=some 1:=by kernel_rfl
theorem sle_25:Tryz.prog.underlying 25=some (.slice (Tryz.prog.elem 25)):=by kernel_rfl
theorem esz_25:sizeT Tryz.prog (Tryz.prog.elem 25)=some 14:=by kernel_rfl
theorem agg_27:aggT Tryz.prog 27=true:=by kernel_rfl
theorem sz_27:sizeT Tryz.prog 27=some 7:=by kernel_rfl
theorem off_27_0:BW Tryz.prog 27 0=some 0:=by kernel_rfl
theorem off_27_1:BW Tryz.prog 27 1=some 1:=by kernel_rfl
theorem off_27_2:BW Tryz.prog 27 2=some 2:=by kernel_rfl
theorem off_27_3:BW Tryz.prog 27 3=some 3:=by kernel_rfl
theorem off_27_4:BW Tryz.prog 27 4=some 4:=by kernel_rfl
theorem off_27_5:BW Tryz.prog 27 5=some 5:=by kernel_rfl
theorem off_27_6:BW Tryz.prog 27 6=some 6:=by kernel_rfl
theorem pl_27:D6 Tryz.prog 27=some [(0,1),(1,1),(2,1),(3,1),(4,1),(5,1),(6,1)]:=by kernel_rfl
theorem zr_27:C9 Tryz.prog 27=some [.int .i64 0,.int .u64 0,.string ⟨#[]⟩,.slice none 0 0,.string ⟨#[]⟩,.slice none 0 0,.slice none 0 0]:=by kernel_rfl
theorem one_28:oneT Tryz.prog 28=true:=by kernel_rfl
theorem sz_28:sizeT Tryz.prog 28=some 1:=by kernel_rfl
theorem sle_28:Tryz.prog.underlying 28=some (.slice (Tryz.prog.elem 28)):=by kernel_rfl
theorem esz_28:sizeT Tryz.prog (Tryz.prog.elem 28)=some 22:=by kernel_rfl
theorem one_29:oneT Tryz.prog 29=true:=by kernel_rfl
theorem sz_29:sizeT Tryz.prog 29=some 1:=by kernel_rfl
theorem sle_29:Tryz.prog.underlying 29=some (.slice (Tryz.prog.elem 29)):=by kernel_rfl
theorem esz_29:sizeT Tryz.prog (Tryz.prog.elem 29)=some 30:=by kernel_rfl
theorem one_30:oneT Tryz.prog 30=true:=by kernel_rfl
theorem sz_30:sizeT Tryz.prog 30=some 1:=by kernel_rfl
theorem sle_30:Tryz.prog.underlying 30=some (.slice (Tryz.prog.elem 30)):=by kernel_rfl
theorem esz_30:sizeT Tryz.prog (Tryz.prog.elem 30)=some 28:=by kernel_rfl
theorem agg_32:aggT Tryz.prog 32=true:=by kernel_rfl
theorem sz_32:sizeT Tryz.prog 32=some 21:=by kernel_rfl
theorem off_32_0:BW Tryz.prog 32 0=some 0:=by kernel_rfl
theorem off_32_1:BW Tryz.prog 32 1=some 1:=by kernel_rfl
theorem off_32_2:BW Tryz.prog 32 2=some 8:=by kernel_rfl
theorem off_32_3:BW Tryz.prog 32 3=some 15:=by kernel_rfl
theorem off_32_4:BW Tryz.prog 32 4=some 16:=by kernel_rfl
theorem off_32_5:BW Tryz.prog 32 5=some 17:=by kernel_rfl
theorem off_32_6:BW Tryz.prog 32 6=some 18:=by kernel_rfl
theorem off_32_7:BW Tryz.prog 32 7=some 19:=by kernel_rfl
theorem off_32_8:BW Tryz.prog 32 8=some 20:=by kernel_rfl
theorem pl_32:D6 Tryz.prog 32=some [(0,1),(1,7),(8,7),(15,1),(16,1),(17,1),(18,1),(19,1),(20,1)]:=by kernel_rfl
theorem zr_32:C9 Tryz.prog 32=some [.int .i64 0,.int .i64 0,.int .u64 0,.string ⟨#[]⟩,.slice none 0 0,.string ⟨#[]⟩,.slice none 0 0,.slice none 0 0,.int .i64 0,.int .u64 0,.string ⟨#[]⟩,.slice none 0 0,.string ⟨#[]⟩,.slice none 0 0,.slice none 0 0,.slice none 0 0,.bool false,.string ⟨#[]⟩,.string ⟨#[]⟩,.slice none 0 0,.slice none 0 0]:=by kernel_rfl
theorem one_35:oneT Tryz.prog 35=true:=by kernel_rfl
theorem sz_35:sizeT Tryz.prog 35=some 1:=by kernel_rfl
theorem sl_35:Tryz.prog.underlying 35=some (.slice 81):=by kernel_rfl
theorem sle_35:Tryz.prog.underlying 35=some (.slice (Tryz.prog.elem 35)):=by kernel_rfl
theorem esz_35:sizeT Tryz.prog (Tryz.prog.elem 35)=some 8:=by kernel_rfl
theorem ap_35:(Tryz.prog.info? 81).map (fun i=>(i.size,i.bytes,i.zero.map (·.cells.size)))=some (8,128,some 8):=by kernel_rfl
theorem one_36:oneT Tryz.prog 36=true:=by kernel_rfl
theorem sz_36:sizeT Tryz.prog 36=some 1:=by kernel_rfl
theorem sl_36:Tryz.prog.underlying 36=some (.slice 39):=by kernel_rfl
theorem sle_36:Tryz.prog.underlying 36=some (.slice (Tryz.prog.elem 36)):=by kernel_rfl
theorem esz_36:sizeT Tryz.prog (Tryz.prog.elem 36)=some 7:=by kernel_rfl
theorem ap_36:(Tryz.prog.info? 39).map (fun i=>(i.size,i.bytes,i.zero.map (·.cells.size)))=some (7,120,some 7):=by kernel_rfl
theorem one_37:oneT Tryz.prog 37=true:=by kernel_rfl
theorem sz_37:sizeT Tryz.prog 37=some 1:=by kernel_rfl
theorem sl_37:Tryz.prog.underlying 37=some (.slice 85):=by kernel_rfl
theorem sle_37:Tryz.prog.underlying 37=some (.slice (Tryz.prog.elem 37)):=by kernel_rfl
theorem esz_37:sizeT Tryz.prog (Tryz.prog.elem 37)=some 14:=by kernel_rfl
theorem ap_37:(Tryz.prog.info? 85).map (fun i=>(i.size,i.bytes,i.zero.map (·.cells.size)))=some (14,240,some 14):=by kernel_rfl
theorem agg_39:aggT Tryz.prog 39=true:=by kernel_rfl
theorem sz_39:sizeT Tryz.prog 39=some 7:=by kernel_rfl
theorem off_39_0:BW Tryz.prog 39 0=some 0:=by kernel_rfl
theorem off_39_1:BW Tryz.prog 39 1=some 1:=by kernel_rfl
theorem off_39_2:BW Tryz.prog 39 2=some 2:=by kernel_rfl
theorem off_39_3:BW Tryz.prog 39 3=some 3:=by kernel_rfl
theorem off_39_4:BW Tryz.prog 39 4=some 4:=by kernel_rfl
theorem off_39_5:BW Tryz.prog 39 5=some 5:=by kernel_rfl
theorem off_39_6:BW Tryz.prog 39 6=some 6:=by kernel_rfl
theorem pl_39:D6 Tryz.prog 39=some [(0,1),(1,1),(2,1),(3,1),(4,1),(5,1),(6,1)]:=by kernel_rfl
theorem zr_39:C9 Tryz.prog 39=some [.int .i64 0,.int .u64 0,.string ⟨#[]⟩,.slice none 0 0,.string ⟨#[]⟩,.slice none 0 0,.slice none 0 0]:=by kernel_rfl
theorem one_40:oneT Tryz.prog 40=true:=by kernel_rfl
theorem sz_40:sizeT Tryz.prog 40=some 1:=by kernel_rfl
theorem sl_40:Tryz.prog.underlying 40=some (.slice 59):=by kernel_rfl
theorem sle_40:Tryz.prog.underlying 40=some (.slice (Tryz.prog.elem 40)):=by kernel_rfl
theorem esz_40:sizeT Tryz.prog (Tryz.prog.elem 40)=some 22:=by kernel_rfl
theorem ap_40:(Tryz.prog.info? 59).map (fun i=>(i.size,i.bytes,i.zero.map (·.cells.size)))=some (22,368,some 22):=by kernel_rfl
theorem one_41:oneT Tryz.prog 41=true:=by kernel_rfl
theorem sl_41:Tryz.prog.underlying 41=some (.slice 67):=by kernel_rfl
theorem sle_41:Tryz.prog.underlying 41=some (.slice (Tryz.prog.elem 41)):=by kernel_rfl
theorem esz_41:sizeT Tryz.prog (Tryz.prog.elem 41)=some 30:=by kernel_rfl
theorem ap_41:(Tryz.prog.info? 67).map (fun i=>(i.size,i.bytes,i.zero.map (·.cells.size)))=some (30,496,some 30):=by kernel_rfl
theorem one_42:oneT Tryz.prog 42=true:=by kernel_rfl
theorem sz_42:sizeT Tryz.prog 42=some 1:=by kernel_rfl
theorem sl_42:Tryz.prog.underlying 42=some (.slice 63):=by kernel_rfl
theorem sle_42:Tryz.prog.underlying 42=some (.slice (Tryz.prog.elem 42)):=by kernel_rfl
theorem esz_42:sizeT Tryz.prog (Tryz.prog.elem 42)=some 28:=by kernel_rfl
theorem ap_42:(Tryz.prog.info? 63).map (fun i=>(i.size,i.bytes,i.zero.map (·.cells.size)))=some (28,480,some 28):=by kernel_rfl
theorem agg_44:aggT Tryz.prog 44=true:=by kernel_rfl
theorem sz_44:sizeT Tryz.prog 44=some 21:=by kernel_rfl
theorem off_44_0:BW Tryz.prog 44 0=some 0:=by kernel_rfl
theorem off_44_1:BW Tryz.prog 44 1=some 1:=by kernel_rfl
theorem off_44_2:BW Tryz.prog 44 2=some 8:=by kernel_rfl
theorem off_44_3:BW Tryz.prog 44 3=some 15:=by kernel_rfl
theorem off_44_4:BW Tryz.prog 44 4=some 16:=by kernel_rfl
theorem off_44_5:BW Tryz.prog 44 5=some 17:=by kernel_rfl
theorem off_44_6:BW Tryz.prog 44 6=some 18:=by kernel_rfl
theorem off_44_7:BW Tryz.prog 44 7=some 19:=by kernel_rfl
theorem off_44_8:BW Tryz.prog 44 8=some 20:=by kernel_rfl
theorem pl_44:D6 Tryz.prog 44=some [(0,1),(1,7),(8,7),(15,1),(16,1),(17,1),(18,1),(19,1),(20,1)]:=by kernel_rfl
theorem zr_44:C9 Tryz.prog 44=some [.int .i64 0,.int .i64 0,.int .u64 0,.string ⟨#[]⟩,.slice none 0 0,.string ⟨#[]⟩,.slice none 0 0,.slice none 0 0,.int .i64 0,.int .u64 0,.string ⟨#[]⟩,.slice none 0 0,.string ⟨#[]⟩,.slice none 0 0,.slice none 0 0,.slice none 0 0,.bool false,.string ⟨#[]⟩,.string ⟨#[]⟩,.slice none 0 0,.slice none 0 0]:=by kernel_rfl
theorem agg_57:aggT Tryz.prog 57=true:=by kernel_rfl
theorem sz_57:sizeT Tryz.prog 57=some 22:=by kernel_rfl
theorem off_57_0:BW Tryz.prog 57 0=some 0:=by kernel_rfl
theorem off_57_1:BW Tryz.prog 57 1=some 1:=by kernel_rfl
theorem zr_57:C9 Tryz.prog 57=some [.int .i64 0,.int .i64 0,.int .i64 0,.int .u64 0,.string ⟨#[]⟩,.slice none 0 0,.string ⟨#[]⟩,.slice none 0 0,.slice none 0 0,.int .i64 0,.int .u64 0,.string ⟨#[]⟩,.slice none 0 0,.string ⟨#[]⟩,.slice none 0 0,.slice none 0 0,.slice none 0 0,.bool false,.string ⟨#[]⟩,.string ⟨#[]⟩,.slice none 0 0,.slice none 0 0]:=by kernel_rfl
theorem agg_59:aggT Tryz.prog 59=true:=by kernel_rfl
theorem sz_59:sizeT Tryz.prog 59=some 22:=by kernel_rfl
theorem off_59_0:BW Tryz.prog 59 0=some 0:=by kernel_rfl
theorem off_59_1:BW Tryz.prog 59 1=some 1:=by kernel_rfl
theorem pl_59:D6 Tryz.prog 59=some [(0,1),(1,21)]:=by kernel_rfl
theorem zr_59:C9 Tryz.prog 59=some [.int .i64 0,.int .i64 0,.int .i64 0,.int .u64 0,.string ⟨#[]⟩,.slice none 0 0,.string ⟨#[]⟩,.slice none 0 0,.slice none 0 0,.int .i64 0,.int .u64 0,.string ⟨#[]⟩,.slice none 0 0,.string ⟨#[]⟩,.slice none 0 0,.slice none 0 0,.slice none 0 0,.bool false,.string ⟨#[]⟩,.string ⟨#[]⟩,.slice none 0 0,.slice none 0 0]:=by kernel_rfl
theorem agg_61:aggT Tryz.prog 61=true:=by kernel_rfl
theorem sz_61:sizeT Tryz.prog 61=some 28:=by kernel_rfl
theorem off_61_0:BW Tryz.prog 61 0=some 0:=by kernel_rfl
theorem off_61_1:BW Tryz.prog 61 1=some 7:=by kernel_rfl
theorem zr_61:C9 Tryz.prog 61=some [.int .i64 0,.int .u64 0,.string ⟨#[]⟩,.slice none 0 0,.string ⟨#[]⟩,.slice none 0 0,.slice none 0 0,.int .i64 0,.int .i64 0,.int .u64 0,.string ⟨#[]⟩,.slice none 0 0,.string ⟨#[]⟩,.slice none 0 0,.slice none 0 0,.int .i64 0,.int .u64 0,.string ⟨#[]⟩,.slice none 0 0,.string ⟨#[]⟩,.slice none 0 0,.slice none 0 0,.slice none 0 0,.bool false,.string ⟨#[]⟩,.string ⟨#[]⟩,.slice none 0 0,.slice none 0 0]:=by kernel_rfl
theorem agg_63:aggT Tryz.prog 63=true:=by kernel_rfl
theorem sz_63:sizeT Tryz.prog 63=some 28:=by kernel_rfl
theorem off_63_0:BW Tryz.prog 63 0=some 0:=by kernel_rfl
theorem off_63_1:BW Tryz.prog 63 1=some 7:=by kernel_rfl
theorem pl_63:D6 Tryz.prog 63=some [(0,7),(7,21)]:=by kernel_rfl
theorem zr_63:C9 Tryz.prog 63=some [.int .i64 0,.int .u64 0,.string ⟨#[]⟩,.slice none 0 0,.string ⟨#[]⟩,.slice none 0 0,.slice none 0 0,.int .i64 0,.int .i64 0,.int .u64 0,.string ⟨#[]⟩,.slice none 0 0,.string ⟨#[]⟩,.slice none 0 0,.slice none 0 0,.int .i64 0,.int .u64 0,.string ⟨#[]⟩,.slice none 0 0,.string ⟨#[]⟩,.slice none 0 0,.slice none 0 0,.slice none 0 0,.bool false,.string ⟨#[]⟩,.string ⟨#[]⟩,.slice none 0 0,.slice none 0 0]:=by kernel_rfl
theorem agg_67:aggT Tryz.prog 67=true:=by kernel_rfl
theorem sz_67:sizeT Tryz.prog 67=some 30:=by kernel_rfl
theorem off_67_0:BW Tryz.prog 67 0=some 0:=by kernel_rfl
theorem off_67_1:BW Tryz.prog 67 1=some 1:=by kernel_rfl
theorem off_67_2:BW Tryz.prog 67 2=some 2:=by kernel_rfl
theorem off_67_3:BW Tryz.prog 67 3=some 9:=by kernel_rfl
theorem pl_67:D6 Tryz.prog 67=some [(0,1),(1,1),(2,7),(9,21)]:=by kernel_rfl
theorem zr_67:C9 Tryz.prog 67=some [.int .i64 0,.int .i64 0,.int .i64 0,.int .u64 0,.string ⟨#[]⟩,.slice none 0 0,.string ⟨#[]⟩,.slice none 0 0,.slice none 0 0,.int .i64 0,.int .i64 0,.int .u64 0,.string ⟨#[]⟩,.slice none 0 0,.string ⟨#[]⟩,.slice none 0 0,.slice none 0 0,.int .i64 0,.int .u64 0,.string ⟨#[]⟩,.slice none 0 0,.string ⟨#[]⟩,.slice none 0 0,.slice none 0 0,.slice none 0 0,.bool false,.string ⟨#[]⟩,.string ⟨#[]⟩,.slice none 0 0,.slice none 0 0]:=by kernel_rfl
theorem sl_71:Tryz.prog.underlying 71=some (.slice 44):=by kernel_rfl
theorem sle_71:Tryz.prog.underlying 71=some (.slice (Tryz.prog.elem 71)):=by kernel_rfl
theorem esz_71:sizeT Tryz.prog (Tryz.prog.elem 71)=some 21:=by kernel_rfl
theorem ap_71:(Tryz.prog.info? 44).map (fun i=>(i.size,i.bytes,i.zero.map (·.cells.size)))=some (21,360,some 21):=by kernel_rfl
theorem agg_77:aggT Tryz.prog 77=true:=by kernel_rfl
theorem sz_77:sizeT Tryz.prog 77=some 30:=by kernel_rfl
theorem off_77_0:BW Tryz.prog 77 0=some 0:=by kernel_rfl
theorem off_77_1:BW Tryz.prog 77 1=some 1:=by kernel_rfl
theorem off_77_2:BW Tryz.prog 77 2=some 2:=by kernel_rfl
theorem off_77_3:BW Tryz.prog 77 3=some 9:=by kernel_rfl
theorem zr_77:C9 Tryz.prog 77=some [.int .i64 0,.int .i64 0,.int .i64 0,.int .u64 0,.string ⟨#[]⟩,.slice none 0 0,.string ⟨#[]⟩,.slice none 0 0,.slice none 0 0,.int .i64 0,.int .i64 0,.int .u64 0,.string ⟨#[]⟩,.slice none 0 0,.string ⟨#[]⟩,.slice none 0 0,.slice none 0 0,.int .i64 0,.int .u64 0,.string ⟨#[]⟩,.slice none 0 0,.string ⟨#[]⟩,.slice none 0 0,.slice none 0 0,.slice none 0 0,.bool false,.string ⟨#[]⟩,.string ⟨#[]⟩,.slice none 0 0,.slice none 0 0]:=by kernel_rfl
theorem agg_79:aggT Tryz.prog 79=true:=by kernel_rfl
theorem sz_79:sizeT Tryz.prog 79=some 8:=by kernel_rfl
theorem off_79_0:BW Tryz.prog 79 0=some 0:=by kernel_rfl
theorem off_79_1:BW Tryz.prog 79 1=some 1:=by kernel_rfl
theorem zr_79:C9 Tryz.prog 79=some [.int .i64 0,.int .i64 0,.int .u64 0,.string ⟨#[]⟩,.slice none 0 0,.string ⟨#[]⟩,.slice none 0 0,.slice none 0 0]:=by kernel_rfl
theorem agg_81:aggT Tryz.prog 81=true:=by kernel_rfl
theorem sz_81:sizeT Tryz.prog 81=some 8:=by kernel_rfl
theorem off_81_0:BW Tryz.prog 81 0=some 0:=by kernel_rfl
theorem off_81_1:BW Tryz.prog 81 1=some 1:=by kernel_rfl
theorem pl_81:D6 Tryz.prog 81=some [(0,1),(1,7)]:=by kernel_rfl
theorem zr_81:C9 Tryz.prog 81=some [.int .i64 0,.int .i64 0,.int .u64 0,.string ⟨#[]⟩,.slice none 0 0,.string ⟨#[]⟩,.slice none 0 0,.slice none 0 0]:=by kernel_rfl
theorem agg_83:aggT Tryz.prog 83=true:=by kernel_rfl
theorem sz_83:sizeT Tryz.prog 83=some 14:=by kernel_rfl
theorem off_83_0:BW Tryz.prog 83 0=some 0:=by kernel_rfl
theorem off_83_1:BW Tryz.prog 83 1=some 7:=by kernel_rfl
theorem zr_83:C9 Tryz.prog 83=some [.int .i64 0,.int .u64 0,.string ⟨#[]⟩,.slice none 0 0,.string ⟨#[]⟩,.slice none 0 0,.slice none 0 0,.int .i64 0,.int .u64 0,.string ⟨#[]⟩,.slice none 0 0,.string ⟨#[]⟩,.slice none 0 0,.slice none 0 0]:=by kernel_rfl
theorem agg_85:aggT Tryz.prog 85=true:=by kernel_rfl
theorem sz_85:sizeT Tryz.prog 85=some 14:=by kernel_rfl
theorem off_85_0:BW Tryz.prog 85 0=some 0:=by kernel_rfl
theorem off_85_1:BW Tryz.prog 85 1=some 7:=by kernel_rfl
theorem pl_85:D6 Tryz.prog 85=some [(0,7),(7,7)]:=by kernel_rfl
theorem zr_85:C9 Tryz.prog 85=some [.int .i64 0,.int .u64 0,.string ⟨#[]⟩,.slice none 0 0,.string ⟨#[]⟩,.slice none 0 0,.slice none 0 0,.int .i64 0,.int .u64 0,.string ⟨#[]⟩,.slice none 0 0,.string ⟨#[]⟩,.slice none 0 0,.slice none 0 0]:=by kernel_rfl
theorem sl_132:Tryz.prog.underlying 132=some (.slice 3):=by kernel_rfl
theorem sle_132:Tryz.prog.underlying 132=some (.slice (Tryz.prog.elem 132)):=by kernel_rfl
theorem esz_132:sizeT Tryz.prog (Tryz.prog.elem 132)=some 1:=by kernel_rfl
theorem BF:Tryz.prog.follows .mixedOrders=true:=by kernel_rfl
section
theorem I4:∀ a b:List UInt8,Op.bytesLess a b=decide (tcmp a b<0)
 | [],[]=>rfl
 | [],_::_=>rfl
 | _::_,[]=>rfl
 | x::a,y::b=>by
  rw[Op.bytesLess,tcmp,I4 a b]
  by_cases h1:x.toNat<y.toNat
  ·have h1':x<y:=UInt8.lt_iff_toNat_lt.2 h1
   simp[h1,h1']
  ·have h1':¬ x<y:=fun h=>h1 (UInt8.lt_iff_toNat_lt.1 h)
   by_cases h2:y.toNat<x.toNat
   ·have h3:(x==y)=false:=beq_eq_false_iff_ne.2 (fun e=>by rw[e]at h2;omega)
    simp[h1,h1',h2,h3]
   ·have h3:x=y:=UInt8.toNat_inj.1 (by omega)
    subst h3
    simp
section
variable{P:Program}{t:TypeId}{a b:List UInt8}
theorem UE:FM P .lss t (.string (str a)) (.string (str b)) (.bool (decide (tcmp a b<0))):=fun _ _ w=>by
 simp only[eqGuard,binOp,Op.stringOp,FB,I4]
 rfl
theorem RM(a b:List UInt8):(!(decide (tcmp a b<0)||(a==b)))=decide (0<tcmp a b):=by
 rw[KA]
 rcases M0 a b with h | h | h
 ·rw[h];rfl
 ·rw[h,LT h];simp
 ·have hne:¬ a=b:=fun e=>by rw[e]at h;have:=HD b b;omega
  rw[h,decide_eq_false hne]
  rfl
theorem UJ:FM P .gtr t (.string (str a)) (.string (str b)) (.bool (decide (0<tcmp a b))):=fun _ _ w=>by
 simp only[eqGuard,binOp,Op.stringOp,FB,I4,RM]
 rfl
end
theorem GN{P:Program}{cx:Cx}{T:TL}{B:BL}{R:RL}{o:Oper}{x:Operand}{src dst:TypeId}{k k':IntKind}{n z:Int}(ho:o.op=.convert src dst x)(hx:Kn T x (.is (.int k n)))(hs:(P.underlying src).isSome=true)(hd:P.underlying dst=some (.int k'))(hi:P.intKind dst=k')(hz:k'.wrap n=z):LStep P cx B R o T (.is (.int k' z)):=LStep.same fun M V w a _ hk=>by
 have h1:=(hk x _ (by simp[ho,Op.operands]) hx).is_eq
 subst hi hz
 exact⟨_,by simp[execOp,ho,h1,run_convert_int w src dst k n hs hd],.cell _⟩
theorem ES(z:Int)(h1:0<=z)(h2:z<=18446744073709551615):IntKind.u64.wrap z=z:=by
 simp only[IntKind.wrap,IntKind.bits,IntKind.signed]
 simp
 omega
end
end Go.Proofs.YtojdpgeeajaojaaGreat
