/- Part 9. Conditions: as each theorem says. -/
import Derived.Test.YtecfdcdkkgmkpaaIO08
import Derived.Test.YtecfdcdkkgmkpaaProg
import Derived.Laws.Entries
set_option maxRecDepth 100000
namespace Go.Proofs.Ytecfdcdkkgmkpaa
open Go.RowKit
theorem one_3:oneT Try.prog 3=true:=by kernel_rfl
theorem sz_3:sizeT Try.prog 3=some 1:=by kernel_rfl
theorem zr_3:C8 Try.prog 3=some [.int .i64 0]:=by kernel_rfl
theorem one_4:oneT Try.prog 4=true:=by kernel_rfl
theorem sz_4:sizeT Try.prog 4=some 1:=by kernel_rfl
theorem bool_4:Try.prog.underlying 4=some .bool:=by kernel_rfl
theorem one_9:oneT Try.prog 9=true:=by kernel_rfl
theorem sz_9:sizeT Try.prog 9=some 1:=by kernel_rfl
theorem str_9:Try.prog.underlying 9=some .string:=by kernel_rfl
theorem one_22:oneT Try.prog 22=true:=by kernel_rfl
theorem sz_22:sizeT Try.prog 22=some 1:=by kernel_rfl
theorem int_22:Try.prog.underlying 22=some (.int .u64):=by kernel_rfl
theorem one_23:oneT Try.prog 23=true:=by kernel_rfl
theorem sz_23:sizeT Try.prog 23=some 1:=by kernel_rfl
theorem sle_23:Try.prog.underlying 23=some (.slice (Try.prog.elem 23)):=by kernel_rfl
theorem esz_23:sizeT Try.prog (Try.prog.elem 23)=some 8:=by kernel_rfl
theorem one_24:oneT Try.prog 24=true:=by kernel_rfl
theorem sz_24:sizeT Try.prog 24=some 1:=by kernel_rfl
theorem sle_24:Try.prog.underlying 24=some (.slice (Try.prog.elem 24)):=by kernel_rfl
theorem esz_24:sizeT Try.prog (Try.prog.elem 24)=some 7:=by kernel_rfl
theorem one_25:oneT Try.prog 25=true:=by kernel_rfl
theorem sz_25:sizeT Try.prog 25=some 1:=by kernel_rfl
theorem sle_25:Try.prog.underlying 25=some (.slice (Try.prog.elem 25)):=by kernel_rfl
theorem esz_25:sizeT Try.prog (Try.prog.elem 25)=some 14:=by kernel_rfl
theorem agg_27:aggT Try.prog 27=true:=by kernel_rfl
theorem sz_27:sizeT Try.prog 27=some 7:=by kernel_rfl
theorem off_27_0:BR Try.prog 27 0=some 0:=by kernel_rfl
theorem off_27_1:BR Try.prog 27 1=some 1:=by kernel_rfl
theorem off_27_2:BR Try.prog 27 2=some 2:=by kernel_rfl
theorem off_27_3:BR Try.prog 27 3=some 3:=by kernel_rfl
theorem off_27_4:BR Try.prog 27 4=some 4:=by kernel_rfl
theorem off_27_5:BR Try.prog 27 5=some 5:=by kernel_rfl
theorem off_27_6:BR Try.prog 27 6=some 6:=by kernel_rfl
theorem pl_27:DC Try.prog 27=some [(0,1),(1,1),(2,1),(3,1),(4,1),(5,1),(6,1)]:=by kernel_rfl
theorem zr_27:C8 Try.prog 27=some [.int .i64 0,.int .u64 0,.string ⟨#[]⟩,.slice none 0 0,.string ⟨#[]⟩,.slice none 0 0,.slice none 0 0]:=by kernel_rfl
theorem one_28:oneT Try.prog 28=true:=by kernel_rfl
theorem sz_28:sizeT Try.prog 28=some 1:=by kernel_rfl
theorem sl_28:Try.prog.underlying 28=some (.slice 61):=by kernel_rfl
theorem sle_28:Try.prog.underlying 28=some (.slice (Try.prog.elem 28)):=by kernel_rfl
theorem esz_28:sizeT Try.prog (Try.prog.elem 28)=some 22:=by kernel_rfl
theorem ap_28:(Try.prog.info? 61).map (fun i=>(i.size,i.bytes,i.zero.map (·.cells.size)))=some (22,368,some 22):=by kernel_rfl
theorem one_29:oneT Try.prog 29=true:=by kernel_rfl
theorem sz_29:sizeT Try.prog 29=some 1:=by kernel_rfl
theorem sl_29:Try.prog.underlying 29=some (.slice 76):=by kernel_rfl
theorem sle_29:Try.prog.underlying 29=some (.slice (Try.prog.elem 29)):=by kernel_rfl
theorem esz_29:sizeT Try.prog (Try.prog.elem 29)=some 30:=by kernel_rfl
theorem ap_29:(Try.prog.info? 76).map (fun i=>(i.size,i.bytes,i.zero.map (·.cells.size)))=some (30,496,some 30):=by kernel_rfl
theorem one_30:oneT Try.prog 30=true:=by kernel_rfl
theorem sz_30:sizeT Try.prog 30=some 1:=by kernel_rfl
theorem sl_30:Try.prog.underlying 30=some (.slice 65):=by kernel_rfl
theorem sle_30:Try.prog.underlying 30=some (.slice (Try.prog.elem 30)):=by kernel_rfl
theorem esz_30:sizeT Try.prog (Try.prog.elem 30)=some 28:=by kernel_rfl
theorem ap_30:(Try.prog.info? 65).map (fun i=>(i.size,i.bytes,i.zero.map (·.cells.size)))=some (28,480,some 28):=by kernel_rfl
theorem agg_32:aggT Try.prog 32=true:=by kernel_rfl
theorem sz_32:sizeT Try.prog 32=some 21:=by kernel_rfl
theorem off_32_0:BR Try.prog 32 0=some 0:=by kernel_rfl
theorem off_32_1:BR Try.prog 32 1=some 1:=by kernel_rfl
theorem off_32_2:BR Try.prog 32 2=some 8:=by kernel_rfl
theorem off_32_3:BR Try.prog 32 3=some 15:=by kernel_rfl
theorem off_32_4:BR Try.prog 32 4=some 16:=by kernel_rfl
theorem off_32_5:BR Try.prog 32 5=some 17:=by kernel_rfl
theorem off_32_6:BR Try.prog 32 6=some 18:=by kernel_rfl
theorem off_32_7:BR Try.prog 32 7=some 19:=by kernel_rfl
theorem off_32_8:BR Try.prog 32 8=some 20:=by kernel_rfl
theorem pl_32:DC Try.prog 32=some [(0,1),(1,7),(8,7),(15,1),(16,1),(17,1),(18,1),(19,1),(20,1)]:=by kernel_rfl
theorem zr_32:C8 Try.prog 32=some [.int .i64 0,.int .i64 0,.int .u64 0,.string ⟨#[]⟩,.slice none 0 0,.string ⟨#[]⟩,.slice none 0 0,.slice none 0 0,.int .i64 0,.int .u64 0,.string ⟨#[]⟩,.slice none 0 0,.string ⟨#[]⟩,.slice none 0 0,.slice none 0 0,.slice none 0 0,.bool false,.string ⟨#[]⟩,.string ⟨#[]⟩,.slice none 0 0,.slice none 0 0]:=by kernel_rfl
theorem one_36:oneT Try.prog 36=true:=by kernel_rfl
theorem sz_36:sizeT Try.prog 36=some 1:=by kernel_rfl
theorem sl_36:Try.prog.underlying 36=some (.slice 99):=by kernel_rfl
theorem sle_36:Try.prog.underlying 36=some (.slice (Try.prog.elem 36)):=by kernel_rfl
theorem esz_36:sizeT Try.prog (Try.prog.elem 36)=some 8:=by kernel_rfl
theorem ap_36:(Try.prog.info? 99).map (fun i=>(i.size,i.bytes,i.zero.map (·.cells.size)))=some (8,128,some 8):=by kernel_rfl
theorem one_37:oneT Try.prog 37=true:=by kernel_rfl
theorem sz_37:sizeT Try.prog 37=some 1:=by kernel_rfl
theorem sl_37:Try.prog.underlying 37=some (.slice 40):=by kernel_rfl
theorem sle_37:Try.prog.underlying 37=some (.slice (Try.prog.elem 37)):=by kernel_rfl
theorem esz_37:sizeT Try.prog (Try.prog.elem 37)=some 7:=by kernel_rfl
theorem ap_37:(Try.prog.info? 40).map (fun i=>(i.size,i.bytes,i.zero.map (·.cells.size)))=some (7,120,some 7):=by kernel_rfl
theorem one_38:oneT Try.prog 38=true:=by kernel_rfl
theorem sz_38:sizeT Try.prog 38=some 1:=by kernel_rfl
theorem sl_38:Try.prog.underlying 38=some (.slice 103):=by kernel_rfl
theorem sle_38:Try.prog.underlying 38=some (.slice (Try.prog.elem 38)):=by kernel_rfl
theorem esz_38:sizeT Try.prog (Try.prog.elem 38)=some 14:=by kernel_rfl
theorem ap_38:(Try.prog.info? 103).map (fun i=>(i.size,i.bytes,i.zero.map (·.cells.size)))=some (14,240,some 14):=by kernel_rfl
theorem agg_40:aggT Try.prog 40=true:=by kernel_rfl
theorem sz_40:sizeT Try.prog 40=some 7:=by kernel_rfl
theorem off_40_0:BR Try.prog 40 0=some 0:=by kernel_rfl
theorem off_40_1:BR Try.prog 40 1=some 1:=by kernel_rfl
theorem off_40_2:BR Try.prog 40 2=some 2:=by kernel_rfl
theorem off_40_3:BR Try.prog 40 3=some 3:=by kernel_rfl
theorem off_40_4:BR Try.prog 40 4=some 4:=by kernel_rfl
theorem off_40_5:BR Try.prog 40 5=some 5:=by kernel_rfl
theorem off_40_6:BR Try.prog 40 6=some 6:=by kernel_rfl
theorem pl_40:DC Try.prog 40=some [(0,1),(1,1),(2,1),(3,1),(4,1),(5,1),(6,1)]:=by kernel_rfl
theorem zr_40:C8 Try.prog 40=some [.int .i64 0,.int .u64 0,.string ⟨#[]⟩,.slice none 0 0,.string ⟨#[]⟩,.slice none 0 0,.slice none 0 0]:=by kernel_rfl
theorem one_41:oneT Try.prog 41=true:=by kernel_rfl
theorem sz_41:sizeT Try.prog 41=some 1:=by kernel_rfl
theorem sl_41:Try.prog.underlying 41=some (.slice 63):=by kernel_rfl
theorem sle_41:Try.prog.underlying 41=some (.slice (Try.prog.elem 41)):=by kernel_rfl
theorem esz_41:sizeT Try.prog (Try.prog.elem 41)=some 22:=by kernel_rfl
theorem ap_41:(Try.prog.info? 63).map (fun i=>(i.size,i.bytes,i.zero.map (·.cells.size)))=some (22,368,some 22):=by kernel_rfl
theorem one_42:oneT Try.prog 42=true:=by kernel_rfl
theorem sz_42:sizeT Try.prog 42=some 1:=by kernel_rfl
theorem sl_42:Try.prog.underlying 42=some (.slice 69):=by kernel_rfl
theorem sle_42:Try.prog.underlying 42=some (.slice (Try.prog.elem 42)):=by kernel_rfl
theorem esz_42:sizeT Try.prog (Try.prog.elem 42)=some 30:=by kernel_rfl
theorem ap_42:(Try.prog.info? 69).map (fun i=>(i.size,i.bytes,i.zero.map (·.cells.size)))=some (30,496,some 30):=by kernel_rfl
theorem one_43:oneT Try.prog 43=true:=by kernel_rfl
theorem sz_43:sizeT Try.prog 43=some 1:=by kernel_rfl
theorem sl_43:Try.prog.underlying 43=some (.slice 67):=by kernel_rfl
theorem sle_43:Try.prog.underlying 43=some (.slice (Try.prog.elem 43)):=by kernel_rfl
theorem esz_43:sizeT Try.prog (Try.prog.elem 43)=some 28:=by kernel_rfl
theorem ap_43:(Try.prog.info? 67).map (fun i=>(i.size,i.bytes,i.zero.map (·.cells.size)))=some (28,480,some 28):=by kernel_rfl
theorem agg_45:aggT Try.prog 45=true:=by kernel_rfl
theorem sz_45:sizeT Try.prog 45=some 21:=by kernel_rfl
theorem off_45_0:BR Try.prog 45 0=some 0:=by kernel_rfl
theorem off_45_1:BR Try.prog 45 1=some 1:=by kernel_rfl
theorem off_45_2:BR Try.prog 45 2=some 8:=by kernel_rfl
theorem off_45_3:BR Try.prog 45 3=some 15:=by kernel_rfl
theorem off_45_4:BR Try.prog 45 4=some 16:=by kernel_rfl
theorem off_45_5:BR Try.prog 45 5=some 17:=by kernel_rfl
theorem off_45_6:BR Try.prog 45 6=some 18:=by kernel_rfl
theorem off_45_7:BR Try.prog 45 7=some 19:=by kernel_rfl
theorem off_45_8:BR Try.prog 45 8=some 20:=by kernel_rfl
theorem pl_45:DC Try.prog 45=some [(0,1),(1,7),(8,7),(15,1),(16,1),(17,1),(18,1),(19,1),(20,1)]:=by kernel_rfl
theorem zr_45:C8 Try.prog 45=some [.int .i64 0,.int .i64 0,.int .u64 0,.string ⟨#[]⟩,.slice none 0 0,.string ⟨#[]⟩,.slice none 0 0,.slice none 0 0,.int .i64 0,.int .u64 0,.string ⟨#[]⟩,.slice none 0 0,.string ⟨#[]⟩,.slice none 0 0,.slice none 0 0,.slice none 0 0,.bool false,.string ⟨#[]⟩,.string ⟨#[]⟩,.slice none 0 0,.slice none 0 0]:=by kernel_rfl
theorem agg_61:aggT Try.prog 61=true:=by kernel_rfl
theorem sz_61:sizeT Try.prog 61=some 22:=by kernel_rfl
theorem off_61_0:BR Try.prog 61 0=some 0:=by kernel_rfl
theorem off_61_1:BR Try.prog 61 1=some 1:=by kernel_rfl
theorem zr_61:C8 Try.prog 61=some [.int .i64 0,.int .i64 0,.int .i64 0,.int .u64 0,.string ⟨#[]⟩,.slice none 0 0,.string ⟨#[]⟩,.slice none 0 0,.slice none 0 0,.int .i64 0,.int .u64 0,.string ⟨#[]⟩,.slice none 0 0,.string ⟨#[]⟩,.slice none 0 0,.slice none 0 0,.slice none 0 0,.bool false,.string ⟨#[]⟩,.string ⟨#[]⟩,.slice none 0 0,.slice none 0 0]:=by kernel_rfl
theorem agg_63:aggT Try.prog 63=true:=by kernel_rfl
theorem sz_63:sizeT Try.prog 63=some 22:=by kernel_rfl
theorem off_63_0:BR Try.prog 63 0=some 0:=by kernel_rfl
theorem off_63_1:BR Try.prog 63 1=some 1:=by kernel_rfl
theorem pl_63:DC Try.prog 63=some [(0,1),(1,21)]:=by kernel_rfl
theorem zr_63:C8 Try.prog 63=some [.int .i64 0,.int .i64 0,.int .i64 0,.int .u64 0,.string ⟨#[]⟩,.slice none 0 0,.string ⟨#[]⟩,.slice none 0 0,.slice none 0 0,.int .i64 0,.int .u64 0,.string ⟨#[]⟩,.slice none 0 0,.string ⟨#[]⟩,.slice none 0 0,.slice none 0 0,.slice none 0 0,.bool false,.string ⟨#[]⟩,.string ⟨#[]⟩,.slice none 0 0,.slice none 0 0]:=by kernel_rfl
theorem agg_65:aggT Try.prog 65=true:=by kernel_rfl
theorem sz_65:sizeT Try.prog 65=some 28:=by kernel_rfl
theorem off_65_0:BR Try.prog 65 0=some 0:=by kernel_rfl
theorem off_65_1:BR Try.prog 65 1=some 7:=by kernel_rfl
theorem zr_65:C8 Try.prog 65=some [.int .i64 0,.int .u64 0,.string ⟨#[]⟩,.slice none 0 0,.string ⟨#[]⟩,.slice none 0 0,.slice none 0 0,.int .i64 0,.int .i64 0,.int .u64 0,.string ⟨#[]⟩,.slice none 0 0,.string ⟨#[]⟩,.slice none 0 0,.slice none 0 0,.int .i64 0,.int .u64 0,.string ⟨#[]⟩,.slice none 0 0,.string ⟨#[]⟩,.slice none 0 0,.slice none 0 0,.slice none 0 0,.bool false,.string ⟨#[]⟩,.string ⟨#[]⟩,.slice none 0 0,.slice none 0 0]:=by kernel_rfl
theorem agg_67:aggT Try.prog 67=true:=by kernel_rfl
theorem sz_67:sizeT Try.prog 67=some 28:=by kernel_rfl
theorem off_67_0:BR Try.prog 67 0=some 0:=by kernel_rfl
theorem off_67_1:BR Try.prog 67 1=some 7:=by kernel_rfl
theorem pl_67:DC Try.prog 67=some [(0,7),(7,21)]:=by kernel_rfl
theorem zr_67:C8 Try.prog 67=some [.int .i64 0,.int .u64 0,.string ⟨#[]⟩,.slice none 0 0,.string ⟨#[]⟩,.slice none 0 0,.slice none 0 0,.int .i64 0,.int .i64 0,.int .u64 0,.string ⟨#[]⟩,.slice none 0 0,.string ⟨#[]⟩,.slice none 0 0,.slice none 0 0,.int .i64 0,.int .u64 0,.string ⟨#[]⟩,.slice none 0 0,.string ⟨#[]⟩,.slice none 0 0,.slice none 0 0,.slice none 0 0,.bool false,.string ⟨#[]⟩,.string ⟨#[]⟩,.slice none 0 0,.slice none 0 0]:=by kernel_rfl
theorem agg_69:aggT Try.prog 69=true:=by kernel_rfl
theorem sz_69:sizeT Try.prog 69=some 30:=by kernel_rfl
theorem off_69_0:BR Try.prog 69 0=some 0:=by kernel_rfl
theorem off_69_1:BR Try.prog 69 1=some 1:=by kernel_rfl
theorem off_69_2:BR Try.prog 69 2=some 2:=by kernel_rfl
theorem off_69_3:BR Try.prog 69 3=some 9:=by kernel_rfl
theorem pl_69:DC Try.prog 69=some [(0,1),(1,1),(2,7),(9,21)]:=by kernel_rfl
theorem zr_69:C8 Try.prog 69=some [.int .i64 0,.int .i64 0,.int .i64 0,.int .u64 0,.string ⟨#[]⟩,.slice none 0 0,.string ⟨#[]⟩,.slice none 0 0,.slice none 0 0,.int .i64 0,.int .i64 0,.int .u64 0,.string ⟨#[]⟩,.slice none 0 0,.string ⟨#[]⟩,.slice none 0 0,.slice none 0 0,.int .i64 0,.int .u64 0,.string ⟨#[]⟩,.slice none 0 0,.string ⟨#[]⟩,.slice none 0 0,.slice none 0 0,.slice none 0 0,.bool false,.string ⟨#[]⟩,.string ⟨#[]⟩,.slice none 0 0,.slice none 0 0]:=by kernel_rfl
theorem sl_70:Try.prog.underlying 70=some (.slice 3):=by kernel_rfl
theorem sle_70:Try.prog.underlying 70=some (.slice (Try.prog.elem 70)):=by kernel_rfl
theorem esz_70:sizeT Try.prog (Try.prog.elem 70)=some 1:=by kernel_rfl
theorem agg_76:aggT Try.prog 76=true:=by kernel_rfl
theorem sz_76:sizeT Try.prog 76=some 30:=by kernel_rfl
theorem off_76_0:BR Try.prog 76 0=some 0:=by kernel_rfl
theorem off_76_1:BR Try.prog 76 1=some 1:=by kernel_rfl
theorem off_76_2:BR Try.prog 76 2=some 2:=by kernel_rfl
theorem off_76_3:BR Try.prog 76 3=some 9:=by kernel_rfl
theorem pl_76:DC Try.prog 76=some [(0,1),(1,1),(2,7),(9,21)]:=by kernel_rfl
theorem zr_76:C8 Try.prog 76=some [.int .i64 0,.int .i64 0,.int .i64 0,.int .u64 0,.string ⟨#[]⟩,.slice none 0 0,.string ⟨#[]⟩,.slice none 0 0,.slice none 0 0,.int .i64 0,.int .i64 0,.int .u64 0,.string ⟨#[]⟩,.slice none 0 0,.string ⟨#[]⟩,.slice none 0 0,.slice none 0 0,.int .i64 0,.int .u64 0,.string ⟨#[]⟩,.slice none 0 0,.string ⟨#[]⟩,.slice none 0 0,.slice none 0 0,.slice none 0 0,.bool false,.string ⟨#[]⟩,.string ⟨#[]⟩,.slice none 0 0,.slice none 0 0]:=by kernel_rfl
theorem agg_97:aggT Try.prog 97=true:=by kernel_rfl
theorem sz_97:sizeT Try.prog 97=some 8:=by kernel_rfl
theorem off_97_0:BR Try.prog 97 0=some 0:=by kernel_rfl
theorem off_97_1:BR Try.prog 97 1=some 1:=by kernel_rfl
theorem zr_97:C8 Try.prog 97=some [.int .i64 0,.int .i64 0,.int .u64 0,.string ⟨#[]⟩,.slice none 0 0,.string ⟨#[]⟩,.slice none 0 0,.slice none 0 0]:=by kernel_rfl
theorem sz_99:sizeT Try.prog 99=some 8:=by kernel_rfl
theorem off_99_0:BR Try.prog 99 0=some 0:=by kernel_rfl
theorem off_99_1:BR Try.prog 99 1=some 1:=by kernel_rfl
theorem pl_99:DC Try.prog 99=some [(0,1),(1,7)]:=by kernel_rfl
theorem zr_99:C8 Try.prog 99=some [.int .i64 0,.int .i64 0,.int .u64 0,.string ⟨#[]⟩,.slice none 0 0,.string ⟨#[]⟩,.slice none 0 0,.slice none 0 0]:=by kernel_rfl
theorem agg_101:aggT Try.prog 101=true:=by kernel_rfl
theorem sz_101:sizeT Try.prog 101=some 14:=by kernel_rfl
theorem off_101_0:BR Try.prog 101 0=some 0:=by kernel_rfl
theorem off_101_1:BR Try.prog 101 1=some 7:=by kernel_rfl
theorem zr_101:C8 Try.prog 101=some [.int .i64 0,.int .u64 0,.string ⟨#[]⟩,.slice none 0 0,.string ⟨#[]⟩,.slice none 0 0,.slice none 0 0,.int .i64 0,.int .u64 0,.string ⟨#[]⟩,.slice none 0 0,.string ⟨#[]⟩,.slice none 0 0,.slice none 0 0]:=by kernel_rfl
theorem sz_103:sizeT Try.prog 103=some 14:=by kernel_rfl
theorem off_103_0:BR Try.prog 103 0=some 0:=by kernel_rfl
theorem off_103_1:BR Try.prog 103 1=some 7:=by kernel_rfl
theorem pl_103:DC Try.prog 103=some [(0,7),(7,7)]:=by kernel_rfl
theorem zr_103:C8 Try.prog 103=some [.int .i64 0,.int .u64 0,.string ⟨#[]⟩,.slice none 0 0,.string ⟨#[]⟩,.slice none 0 0,.slice none 0 0,.int .i64 0,.int .u64 0,.string ⟨#[]⟩,.slice none 0 0,.string ⟨#[]⟩,.slice none 0 0,.slice none 0 0]:=by kernel_rfl
theorem C5:Try.prog.follows .mixedOrders=true:=by kernel_rfl
section
theorem JM:∀ a b:List UInt8,Op.bytesLess a b=decide (tcmp a b<0)
 | [],[]=>rfl
 | [],_::_=>rfl
 | _::_,[]=>rfl
 | x::a,y::b=>by
  rw[Op.bytesLess,tcmp,JM a b]
  by_cases h1:x.toNat<y.toNat
  ·have h1':x<y:=UInt8.lt_iff_toNat_lt.2 h1
   simp[h1,h1']
  ·have h1':¬ x<y:=fun h=>h1 (UInt8.lt_iff_toNat_lt.1 h)
   by_cases h2:y.toNat<x.toNat
   ·have h3:(x==y)=false:=beq_eq_false_iff_ne.2 (fun e=>by rw[e]at h2;omega)
    simp[h1,h1',h2,h3]
   ·have h3:x=y:=UInt8.toNat_inj.1 (by omega)
    subst h3
    simp
section
variable{P:Program}{t:TypeId}{a b:List UInt8}
theorem WK:G8 P .lss t (.string (str a)) (.string (str b)) (.bool (decide (tcmp a b<0))):=fun _ _ w=>by
 simp only[eqGuard,binOp,Op.stringOp,G6,JM]
 rfl
theorem U9(a b:List UInt8):(!(decide (tcmp a b<0)||(a==b)))=decide (0<tcmp a b):=by
 rw[LV]
 rcases NH a b with h | h | h
 ·rw[h];rfl
 ·rw[h,MT h];simp
 ·have hne:¬ a=b:=fun e=>by rw[e]at h;have:=IK b b;omega
  rw[h,decide_eq_false hne]
  rfl
theorem WR:G8 P .gtr t (.string (str a)) (.string (str b)) (.bool (decide (0<tcmp a b))):=fun _ _ w=>by
 simp only[eqGuard,binOp,Op.stringOp,G6,JM,U9]
 rfl
end
theorem H3{P:Program}{cx:Cx}{T:TL}{B:BL}{R:RL}{o:Oper}{x:Operand}{src dst:TypeId}{k k':IntKind}{n z:Int}(ho:o.op=.convert src dst x)(hx:Kn T x (.is (.int k n)))(hs:(P.underlying src).isSome=true)(hd:P.underlying dst=some (.int k'))(hi:P.intKind dst=k')(hz:k'.wrap n=z):LStep P cx B R o T (.is (.int k' z)):=LStep.same fun M V w a _ hk=>by
 have h1:=(hk x _ (by simp[ho,Op.operands]) hx).is_eq
 subst hi hz
 exact⟨_,by simp[execOp,ho,h1,run_convert_int w src dst k n hs hd],.cell _⟩
theorem FO(z:Int)(h1:0<=z)(h2:z<=18446744073709551615):IntKind.u64.wrap z=z:=by
 simp only[IntKind.wrap,IntKind.bits,IntKind.signed]
 simp
 omega
end
end Go.Proofs.Ytecfdcdkkgmkpaa
