/-
  The walks of layer 7's statements, as their frames call them.
-/
import Derived.Test.YtfhbnfhmicaklaaDoorDigL1
import Derived.Test.YtfhbnfhmicaklaaDoorDigL2
import Derived.Test.YtfhbnfhmicaklaaDoorDigL3
import Derived.Test.YtfhbnfhmicaklaaDoorDigL4
import Derived.Test.YtfhbnfhmicaklaaDoorDigL5
import Derived.Test.YtfhbnfhmicaklaaDoorDigM
namespace Go.Proofs.YtfhbnfhmicaklaaDoor.S7
open Go.RowKit
theorem digitsTell_frame (w : World) (hk : D0.ok w) (A0 : Option Addr) (n0 c0 : Nat) (x0 : List UInt8) (r0 : Rd w A0 n0 c0 x0) (a1 : Int) (_ : (Lit.int .i64 a1).wf = true) (a2 : Int) (_ : (Lit.int .i64 a2).wf = true) :
    Calls Tryd.prog 3 #[.slice A0 n0 c0, .int .i64 a1, .int .i64 a2] w fun e w' => e = .returned (.bool true) ∧ Below w.heap.size w w' :=
  digitsTell_walk D0 w hk A0 n0 c0 x0 r0 a1 a2
theorem digitsBoth_frame (w : World) (hk : D0.ok w) (A0 : Option Addr) (n0 c0 : Nat) (x0 : List UInt8) (r0 : Rd w A0 n0 c0 x0) (A1 : Option Addr) (n1 c1 : Nat) (x1 : List UInt8) (r1 : Rd w A1 n1 c1 x1) (a2 : Int) (w2 : (Lit.int .u8 a2).wf = true) :
    Calls Tryd.prog 4 #[.slice A0 n0 c0, .slice A1 n1 c1, .int .u8 a2] w fun e w' => e = .returned (.bool true) ∧ Below w.heap.size w w' :=
  digitsBoth_walk D0 w hk A0 n0 c0 x0 r0 A1 n1 c1 x1 r1 a2 w2
theorem digitsBack_frame (w : World) (hk : D0.ok w) (A0 : Option Addr) (n0 c0 : Nat) (x0 : List UInt8) (r0 : Rd w A0 n0 c0 x0) (a1 : Int) (w1 : (Lit.int .u8 a1).wf = true) :
    Calls Tryd.prog 5 #[.slice A0 n0 c0, .int .u8 a1] w fun e w' => e = .returned (.bool true) ∧ Below w.heap.size w w' :=
  digitsBack_walk D0 w hk A0 n0 c0 x0 r0 a1 w1
theorem digitsShapes_frame (w : World) (hk : D0.ok w) (a0 : Int) (w0 : (Lit.int .u8 a0).wf = true) (a1 : Int) (w1 : (Lit.int .u8 a1).wf = true) :
    Calls Tryd.prog 6 #[.int .u8 a0, .int .u8 a1] w fun e w' => e = .returned (.bool true) ∧ Below w.heap.size w w' :=
  digitsShapes_walk D0 w hk a0 w0 a1 w1
theorem digitsRaise_frame (w : World) (hk : D0.ok w) (A0 : Option Addr) (n0 c0 : Nat) (x0 : List UInt8) (r0 : Rd w A0 n0 c0 x0) (a1 : Int) (w1 : (Lit.int .u16 a1).wf = true) (a2 : Int) (w2 : (Lit.int .u8 a2).wf = true) :
    Calls Tryd.prog 7 #[.slice A0 n0 c0, .int .u16 a1, .int .u8 a2] w fun e w' => e = .returned (.bool true) ∧ Below w.heap.size w w' :=
  digitsRaise_walk D0 w hk A0 n0 c0 x0 r0 a1 w1 a2 w2
end Go.Proofs.YtfhbnfhmicaklaaDoor.S7
