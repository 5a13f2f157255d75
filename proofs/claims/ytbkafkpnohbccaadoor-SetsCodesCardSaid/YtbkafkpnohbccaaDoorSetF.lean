/-
  The walks of layer 8's statements, as their frames call them.
-/
import Derived.Test.YtbkafkpnohbccaaDoorSetL1
import Derived.Test.YtbkafkpnohbccaaDoorSetL2
import Derived.Test.YtbkafkpnohbccaaDoorSetL3
import Derived.Test.YtbkafkpnohbccaaDoorSetL4
import Derived.Test.YtbkafkpnohbccaaDoorSetL5
import Derived.Test.YtbkafkpnohbccaaDoorSetM
import Derived.Test.YtbkafkpnohbccaaDoorSetO
namespace Go.Proofs.YtbkafkpnohbccaaDoor.S8
open Go.RowKit
theorem setsTell_frame (w : World) (hk : GK w) (a0 : Int) (w0 : (Lit.int .u32 a0).wf = true) (v1 : Value) (y1 : Int × Int × Int × Int × Int × Int) (o1 : v1 = .agg #[.int .u32 y1.1, .int .i64 y1.2.1, .int .i64 y1.2.2.1, .int .i64 y1.2.2.2.1, .int .i64 y1.2.2.2.2.1, .int .i64 y1.2.2.2.2.2])
    (v2 : Value) (y2 : Int × Int × Int × Int) (o2 : v2 = .agg #[.int .u32 y2.1, .int .i64 y2.2.1, .int .i64 y2.2.2.1, .int .i64 y2.2.2.2]) :
    Calls Tryd.prog 3 #[.int .u32 a0, v1, v2] w fun e w' => e = .returned (.bool true) ∧ Below w.heap.size w w' := by
  subst o1
  subst o2
  exact setsTell_walk S0 w hk.1 a0 w0 _ _ _ _ _ _ _ _ _ _
theorem setsCodes_frame (w : World) (hk : GK w) (a0 : Int) (w0 : (Lit.int .u32 a0).wf = true) :
    Calls Tryd.prog 4 #[.int .u32 a0] w fun e w' => e = .returned (.bool true) ∧ Below w.heap.size w w' := setsCodes_walk S0 w hk.1 a0 w0
theorem setsFit_frame (w : World) (hk : GK w) (a0 : Int) (w0 : (Lit.int .u8 a0).wf = true) :
    Calls Tryd.prog 5 #[.int .u8 a0] w fun e w' => e = .returned (.bool true) ∧ Below w.heap.size w w' := setsFit_walk S0 w hk.1 a0 w0
theorem setsLeaves_frame (w : World) (hk : GK w) (a0 : Int) (w0 : (Lit.int .i64 a0).wf = true) :
    Calls Tryd.prog 6 #[.int .i64 a0] w fun e w' => e = .returned (.bool true) ∧ Below w.heap.size w w' := setsLeaves_walk S0 w hk.1 a0 w0
theorem setsDigits_frame (w : World) (hk : GK w) (a0 : Int) (w0 : (Lit.int .u8 a0).wf = true) :
    Calls Tryd.prog 7 #[.int .u8 a0] w fun e w' => e = .returned (.bool true) ∧ Below w.heap.size w w' := setsDigits_walk S0 S7.D0 w hk.1 hk.2 a0 w0
end Go.Proofs.YtbkafkpnohbccaaDoor.S8
